/-
  F7RBody
  F7RCross
  F7REnter
  F7RCheck
-/
import Derived.Test.YtkcofelpndlplaaGreatMT13
import Derived.Deep.OwnRows
namespace Go.Proofs.YtkcofelpndlplaaGreat
open Go.RowKit Go.Deep
set_option linter.unusedVariables false
set_option maxRecDepth 20000
theorem mem_take {l : List Int} {j : Nat} {n : Int} (h : j < l.length) : memB (l.take (j + 1)) n = (memB (l.take j) n || decide (l.getD j 0 = n)) := by
 rw [take_at l j h, Bool.eq_iff_iff, has_iff, Bool.or_eq_true, has_iff, List.mem_append, decide_eq_true_eq]
 simp [eq_comm]
theorem mem_yes {l : List Int} {j : Nat} {n : Int} (h : j < l.length) (e : l.getD j 0 = n) : memB l n = true := has_iff.2 (e ▸ getD_mem l j h)
theorem has_as {v : Value} {l : List Int} {n : Int} {w : World} (hs : Sees .i64 w v l) (hl : l.length <= 64) {r : Bool} (hr : Hid (r = memB l n)) : Calls Tryz.prog 64 #[v, .int .i64 n] w fun e w' => e = .returned (.bool r) /\ w = w' := by
 obtain ⟨a, cap, rfl, hc, hm, hn0, hw, hcell⟩ := hs
 have HC : Hid (l ≠ [] -> ∃ b off, a = some ⟨b, off, none⟩ /\ b < w.heap.size /\ ∀ i, i < l.length -> w.cell? ⟨b, off + i, none⟩ = some (.int .i64 (l.getD i 0))) := hcell
 clear hcell hn0 hw
 go_enter Tryz.func64, Tryz.ntmps64
 go_wp2
 go_loopw [5] (fun i wr => ∃ j : Nat, j <= l.length /\ i = .int .i64 j /\ Hid (memB (l.take j) n = false) /\ w = wr) (fun i _ => l.length - (intOf i).toNat)
 case atStart => exact ⟨0, by omega, rfl, rfl, rfl⟩
 case round =>
  obtain ⟨j, hj, rfl, HJ, rfl⟩ := hrel
  by_cases hjn : j < l.length
  ·obtain ⟨b, off, rfl, hb, hat⟩ := HC.out (fun h => by rw [h] at hjn; simp at hjn)
   have hcell := hat j hjn
   clear hat
   obtain ⟨x, HX⟩ : ∃ x, Hid (l.getD j 0 = x) := ⟨_, rfl⟩
   rw [HX.out] at hcell
   by_cases hx : x = n
   ·subst hx
    have HR : Hid (r = true) := by show _ = _; rw [hr.out]; exact mem_yes hjn HX.out
    go_wp2
    go_ret
    exact ⟨rbF HR.out.symm, rfl⟩
   ·have hxb : (x == n) = false := by simpa using hx
    go_wp2
    go_roundw
    case rel => exact ⟨j + 1, by omega, by go_num, ⟨by show _ = _; rw [mem_take hjn, HJ.out, HX.out, decide_eq_false hx]; rfl, trivial⟩⟩
    case measure => simp [intOf]; omega
  ·obtain rfl : j = l.length := by omega
   have HR : Hid (r = false) := by show _ = _; rw [hr.out]; have := HJ.out; rwa [List.take_length] at this
   go_wp2
   go_ret
   exact ⟨rbF HR.out.symm, rfl⟩
theorem grown_setc (w : World) (a : Addr) (u : Value) : w.grownBy (w.setCell a u) (some a.block) :=
 ⟨rfl, rfl, rfl, by rw [nblk_setCell]; exact Nat.le_refl _, fun k _ hk => blk_setCell_other _ _ _ _ (fun e => hk (by rw [e]))⟩
theorem below_setc {B : Nat} {w Z : World} {n j : Nat} {v : Value} (h : Below B w Z) (hn : B <= n) : Below B w (Z.setCell ⟨n, j, none⟩ v) :=
 ⟨h.os, h.tape, h.output, by rw [nblk_setCell]; exact h.size, fun k hk => (blk_setCell_other _ _ _ _ (by show k ≠ n; omega)).trans (h.block k hk)⟩
structure Bd (w : World) (N : Nat) (V : Nat -> Value) (R : Nat -> List Int) (wr : World) : Prop where
 g : Below w.heap.size w wr
 out : wr.rowIs w.heap.size 22 N V
 own : ∀ p, p < N -> wr.ownsRow (w.heap.size + 1) 3 1 (V p) (R p).length ((R p).map (Value.int .i64))
 two : ∀ p q, p < N -> q < N -> p ≠ q -> (V p).ownBlock = none ∨ (V p).ownBlock ≠ (V q).ownBlock
theorem Bd.congr {w wr : World} {N : Nat} {V : Nat -> Value} {R R' : Nat -> List Int} (h : Bd w N V R wr) (e : ∀ p, p < N -> R p = R' p) : Bd w N V R' wr :=
 ⟨h.g, h.out, fun p hp => by rw [<- e p hp]; exact h.own p hp, h.two⟩
theorem Bd.start (w : World) (N : Nat) : Bd w N (fun _ => .slice none 0 0) (fun _ => []) (w.alloc (.cells (madeCells #[.slice none 0 0] N) 22)) :=
 ⟨(Below.refl _ _).alloc (Nat.le_refl _) _, World.rowIs_made _ _ _ _, fun _ _ => World.ownsRow_nil _ _ _ _, fun _ _ _ _ _ => .inl rfl⟩
theorem Bd.row {w wr w1 : World} {N : Nat} {V : Nat -> Value} {R : Nat -> List Int} (h : Bd w N V R wr) {p : Nat} (hp : p < N) {o : Obj} (hgrow : (wr.alloc o).grownBy w1 (V p).ownBlock) : w1.rowIs w.heap.size 22 N V := by
 have hlt := h.out.lt
 refine h.out.of_block ?_
 rw [hgrow.block w.heap.size (by simp; omega) (fun e => by have := ((h.own p hp).lt _ e.symm).1; omega)]
 exact blk_alloc_lt _ _ _ hlt
theorem Bd.step {w wr w1 : World} {N : Nat} {V : Nat -> Value} {R : Nat -> List Int} (h : Bd w N V R wr) {p : Nat} (hp : p < N) {x : Int} {v' : Value} {o : Obj}
  (hown' : w1.ownsRow (w.heap.size + 1) 3 1 v' ((R p).length + 1) ((R p).map (Value.int .i64) ++ [.int .i64 x])) (hgrow : (wr.alloc o).grownBy w1 (V p).ownBlock) (hat : v'.ownBlock = (V p).ownBlock ∨ v'.ownBlock = some (wr.alloc o).heap.size) :
  Bd w N (fun j => if j = p then v' else V j) (fun j => if j = p then R p ++ [x] else R j) (w1.setCell ⟨w.heap.size, p, none⟩ v') := by
 have hs := h.g.size
 have hlt := h.out.lt
 have hl : ∀ q, q < N -> ∀ k, (V q).ownBlock = some k -> w.heap.size + 1 <= k /\ k < wr.heap.size := fun q hq k hk => (h.own q hq).lt k hk
 have hg1 : Below w.heap.size w w1 := (h.g.alloc (by omega) o).grown hgrow (by simp; omega) (fun k hk => by have := hl p hp k hk; omega)
 have hblk : w1.heap[w.heap.size]? = wr.heap[w.heap.size]? := by
  rw [hgrow.block w.heap.size (by simp; omega) (fun e => by have := hl p hp _ e.symm; omega)]
  exact blk_alloc_lt _ _ _ hlt
 have hkeep : ∀ {v : Value} {n : Nat} {xs : List Value}, w1.ownsRow (w.heap.size + 1) 3 1 v n xs -> (w1.setCell ⟨w.heap.size, p, none⟩ v').ownsRow (w.heap.size + 1) 3 1 v n xs := fun {v n xs} hv => by
  refine hv.kept (grown_setc w1 _ _) ?_
  cases hb : v.ownBlock with
  | none => exact .inl rfl
  | some k =>
   right
   intro e
   have e : k = w.heap.size := by injection e
   have := (hv.lt k hb).1
   omega
 have hq : ∀ q, q < N -> q ≠ p -> w1.ownsRow (w.heap.size + 1) 3 1 (V q) (R q).length ((R q).map (Value.int .i64)) := fun q hq hne => ((h.own q hq).alloc o).kept hgrow (h.two q p hq hp hne)
 refine ⟨below_setc hg1 (Nat.le_refl _), (h.out.of_block hblk).set p v', fun q hqN => ?_, fun a b ha hb hab => ?_⟩
 ·by_cases e : q = p
  ·subst e
   rw [if_pos rfl, if_pos rfl]
   refine hkeep ?_
   simpa using hown'
  ·rw [if_neg e, if_neg e]
   exact hkeep (hq q hqN e)
 ·by_cases e1 : a = p
  ·have e2 : b ≠ p := fun e2 => hab (e1.trans e2.symm)
   rw [if_pos e1, if_neg e2]
   subst e1
   rcases hat with h1 | h1
   ·rw [h1]; exact h.two a b ha hb hab
   ·right
    rw [h1]
    intro e
    have := hl b hb _ e.symm
    simp at this
    omega
  ·rw [if_neg e1]
   by_cases e2 : b = p
   ·rw [if_pos e2]
    subst e2
    rcases hat with h1 | h1
    ·rw [h1]; exact h.two a b ha hb hab
    ·rw [h1]
     cases hv : (V a).ownBlock with
     | none => exact .inl rfl
     | some k =>
      right
      intro e
      injection e with e
      have := hl a ha k hv
      simp at e
      omega
   ·rw [if_neg e2]; exact h.two a b ha hb hab
theorem Tryz.infoRow : (Tryz.prog.info? 22).map (fun i => (i.zero, i.size, i.bytes)) = some (some (.slice none 0 0), 1, 24) := by kernel_rfl
theorem around_loop {xs : List In} {k : Nat} (h20 : (nth xs k).op = 20) (q : Int) : aroundL (loopsU xs (k + 1)) q = if (lpAt xs k).h <= q /\ q <= k then aroundL (loopsU xs k) q ++ [(k : Int)] else aroundL (loopsU xs k) q := by
 rw [loopsU]
 unfold lps aroundL
 rw [if_pos h20, List.filter_append, List.map_append]
 by_cases h : (lpAt xs k).h <= q /\ q <= k
 ·rw [if_pos h, List.filter_cons_of_pos (by exact within_iff.2 h)]; rfl
 ·rw [if_neg h, List.filter_cons_of_neg (by rw [show inLpB (lpAt xs k) q = false from within_no.2 h]; simp), List.filter_nil, List.map_nil, List.append_nil]
theorem around_same {xs : List In} {k : Nat} (h20 : (nth xs k).op ≠ 20) (q : Int) : aroundL (loopsU xs (k + 1)) q = aroundL (loopsU xs k) q := by
 rw [loopsU]
 unfold lps
 rw [if_neg h20, List.append_nil]
theorem around_len (ls : List Lp) (q : Int) : (aroundL ls q).length <= ls.length := by
 unfold aroundL
 rw [List.length_map]
 exact List.length_filter_le _ _
set_option maxHeartbeats 1600000 in
theorem bodies_any (v : Value) (xs : List In) (w : World) (hs : SeesI w v xs) (hpl : Placed xs) (hn : xs.length <= 64) :
  Calls Tryz.prog 28 #[v] w fun e w' => ∃ V, e = .returned (.slice (some ⟨w.heap.size, 0, none⟩) xs.length xs.length) /\ Bd w xs.length V (fun p => aroundL (loopsL xs) p) w' := by
 obtain ⟨i0, hi, hz0, hz1, hz2⟩ := info_parts Tryz.infoInt7
 have HPl : Hid (Placed xs) := hpl
 obtain ⟨a, cap, rfl, hc, hm, hn0, hcell⟩ := hs
 have HC : Hid (xs ≠ [] -> ∃ b off, a = some ⟨b, off, none⟩ /\ b < w.heap.size /\ ∀ k, k < xs.length -> At w b (off + k * 5) (xs.getD k In.nil)) := hcell
 clear hcell hn0 hpl
 have hmk := run_make_row' (P := Tryz.prog) 76 22 (.slice none 0 0) 24 Tryz.underlying76 Tryz.infoRow rfl .i64 .i64 xs.length (by omega) (by omega)
 go_enter Tryz.func28, Tryz.ntmps28
 go_wp2
 clear hmk
 go_loopw [4] (fun i wr => ∃ (k : Nat) (V : Nat -> Value), k <= xs.length /\ i = .int .i64 k /\ Hid (Bd w xs.length V (fun p => aroundL (loopsU xs k) p) wr)) (fun i _ => xs.length - (intOf i).toNat)
 case atStart => exact ⟨0, fun _ => .slice none 0 0, by omega, rfl, Bd.start w xs.length⟩
 case round =>
  rename World => w0
  obtain ⟨k, V, hk, rfl, HB⟩ := hrel
  have hsz := HB.out.g.size
  by_cases hlt : k < xs.length
  ·obtain ⟨b, off, rfl, hb, hat⟩ := HC.out (fun h => by rw [h] at hlt; simp at hlt)
   obtain ⟨c0, c1, c2, c3, c4⟩ := (hat k hlt).below HB.out.g hb
   have hbr : b < w0.heap.size := by omega
   clear hat
   obtain ⟨⟨op, d, a, bb, imm⟩, HI⟩ : ∃ i, Hid (nth xs k = i) := ⟨_, rfl⟩
   have HI2 : xs.getD k In.nil = ⟨op, d, a, bb, imm⟩ := HI.out
   rw [HI2] at c0 c1 c2 c3 c4
   clear HI2
   simp only at c0 c1 c2 c3 c4
   by_cases h20 : op = 20
   ·subst h20
    have H20 : Hid ((nth xs k).op = 20) := by show _ = _; rw [HI.out]
    obtain ⟨k', _, _, HL, hh0, hh1, _⟩ := loop_ok HPl.out (l := lpAt xs k) (loopsU_mem.2 ⟨k, hlt, H20.out, rfl⟩)
    have hh : (lpAt xs k).h = k - d /\ 0 <= (k : Int) - d /\ (k : Int) - d < k := by
     have ek : k' = k := by have := congrArg Lp.t HL; simp [lpAt] at this; omega
     rw [ek, HI.out] at HL
     have e1 : (lpAt xs k).h = k - d := by rw [HL]
     have e2 : (lpAt xs k).t = k := rfl
     omega
    clear HL hh0 hh1
    have HH : Hid ((lpAt xs k).h = k - d) := hh.1
    obtain ⟨_, hd0, hd1⟩ := hh
    go_wp2
    go_loopw [5] (fun i wr => ∃ (p : Nat) (V : Nat -> Value), (k : Int) - d <= p /\ p <= k + 1 /\ i = .int .i64 p /\ Hid (Bd w xs.length V (fun q => if (k : Int) - d <= q /\ q < p then aroundL (loopsU xs k) q ++ [(k : Int)] else aroundL (loopsU xs k) q) wr)) (fun i _ => k + 1 - (intOf i).toNat)
    case atStart =>
     refine ⟨((k : Int) - d).toNat, V, by omega, by omega, by rw [show ((((k : Int) - d).toNat : Nat) : Int) = (k : Int) - d by omega], HB.out.congr fun p hp => ?_⟩
     rw [if_neg (by omega)]
    case round =>
     clear c0 c1 c2 c3 c4
     obtain ⟨p, V, hp0, hp1, rfl, HQ⟩ := hrel
     by_cases hpk : p <= k
     ·have hcv := HQ.out.out.cell (i := p) (by omega)
      have hfz := HQ.out.out.frozen p
      have hlt0 := HQ.out.out.lt
      obtain ⟨ys, HY⟩ : ∃ ys, Hid ((if (k : Int) - d <= p /\ p < p then aroundL (loopsU xs k) p ++ [(k : Int)] else aroundL (loopsU xs k) p) = ys) := ⟨_, rfl⟩
      have hown := HQ.out.own p (by omega)
      rw [HY.out] at hown
      have hyl : ys.length <= 64 := by
       have e := HY.out
       rw [if_neg (by omega)] at e
       rw [<- e]
       have := around_len (loopsU xs k) p
       have := loopsU_len xs k
       omega
      have hszq := HQ.out.g.size
      go_wp2_with (at_builtin; go_must (refine wpList_append_own_at _ rfl _ _ 22 rfl (w.heap.size + 1) 3 i0 (.int .i64 0) 1 8 Tryz.underlying22 hi hz0 hz1 hz2 rfl (by decide) _ _ _ rfl (hown.alloc _) ⟨_, 0, none⟩ 1 1 [.int .i64 k] rfl rfl (cell_one_new _ _ _) (one_cell _ _) (by unfold maxLen; omega) (by omega) (by simp; omega) ?_); intro v' w1 hown' hgrow _ hatb; have HS : Hid _ := HQ.out.step (p := p) (x := k) (by omega) (by simp only [HY.out]; exact hown') hgrow hatb; obtain ⟨g1, cap1, ev, _⟩ := own_open hown' (by omega); subst ev; have hr1 := HQ.out.row (by omega) hgrow; have hcv1 := hr1.cell (i := p) (by omega); have hfz1 := hr1.frozen p; have hlt1 := hr1.lt; clear hown' hgrow hatb hr1 hcv hfz)
      go_roundw
      case rel =>
       refine ⟨p + 1, _, by omega, by omega, by go_num, HS.out.congr fun q hq => ?_⟩
       by_cases e : q = p
       ·subst e
        rw [if_pos rfl, if_neg (by omega), if_pos (by omega)]
       ·rw [if_neg e]
        by_cases h1 : (k : Int) - d <= q /\ (q : Int) < p
        ·rw [if_pos (by omega), if_pos (by omega)]
        ·rw [if_neg (by omega), if_neg (by omega)]
      case measure => simp [intOf]; omega
     ·go_wp2
      go_roundw
      case rel =>
       refine ⟨k + 1, _, by omega, by go_num, HQ.out.congr fun q hq => ?_⟩
       rw [around_loop H20.out, HH.out]
       by_cases h1 : (k : Int) - d <= q /\ (q : Int) <= k
       ·rw [if_pos h1, if_pos (by omega)]
       ·rw [if_neg h1, if_neg (by omega)]
      case measure => simp [intOf]; omega
   ·have h20b : (op != 20) = true := by simpa using h20
    have H20 : Hid ((nth xs k).op ≠ 20) := by show _ ≠ _; rw [HI.out]; exact h20
    go_wp2
    go_roundw
    case rel => exact ⟨k + 1, V, by omega, by go_num, HB.out.congr fun q hq => (around_same H20.out q).symm⟩
    case measure => simp [intOf]; omega
  ·obtain rfl : k = xs.length := by omega
   go_wp2
   go_ret
   exact ⟨V, rfl, HB.out⟩
structure SeesB (w : World) (B N : Nat) (V : Nat -> Value) (rows : List (List Int)) : Prop where
 out : w.rowIs B 22 N V
 row : ∀ p, p < N -> Sees .i64 w (V p) (row rows p)
 len : ∀ p, p < N -> (Go.Proofs.YtkcofelpndlplaaGreat.row rows p).length <= 64
theorem SeesB.below {w w' : World} {B N : Nat} {V : Nat -> Value} {rows : List (List Int)} (h : SeesB w B N V rows) (hb : Below w.heap.size w w') : SeesB w' B N V rows :=
 ⟨h.out.of_block (hb.block B h.out.lt), fun p hp => (h.row p hp).below hb (Nat.le_refl _), h.len⟩
theorem wf_ats {xs : List In} {n : Nat} (hn : n <= 64) (q : Int) : ∀ x ∈ aroundL (loopsU xs n) q, (Lit.int .i64 x).wf = true := fun x hx => by
 obtain ⟨l, hl, _, rfl⟩ := around_mem.1 hx
 obtain ⟨k, hk, _, rfl⟩ := loopsU_mem.1 hl
 refine WalkArith.wf_i64 ?_
 simp only [lpAt]
 omega
theorem Bd.sees {w wr : World} {V : Nat -> Value} {xs : List In} (hn : xs.length <= 64) (h : Bd w xs.length V (fun p => aroundL (loopsL xs) p) wr) : SeesB wr w.heap.size xs.length V (bodyL xs) := by
 refine ⟨h.out, fun p hp => ?_, fun p hp => ?_⟩
 ·rw [bodyL, bodyU_row hp]
  exact Sees.own (h.own p hp) (wf_ats hn p)
 ·rw [bodyL, bodyU_row hp]
  have h1 := around_len (loopsU xs xs.length) p
  have h2 := loopsU_len xs xs.length
  omega
set_option maxHeartbeats 3200000 in
theorem rcross_any (v : Value) (xs : List In) (w : World) (hs : SeesI w v xs) (hn : xs.length <= 64) (B : Nat) (V : Nat -> Value) (rows : List (List Int)) (hb : SeesB w B xs.length V rows) {R : Option Int} (hR : Hid (R = optN (first (crossRB xs rows) xs.length))) :
  Calls Tryz.prog 29 #[v, .slice (some ⟨B, 0, none⟩) xs.length xs.length] w fun e w' => e = .returned (optI R) /\ w = w' := by
 have HB : Hid (SeesB w B xs.length V rows) := hb
 have hBlt := hb.out.lt
 obtain ⟨a, cap, rfl, hc, hm, hn0, hcell⟩ := hs
 have HC : Hid (xs ≠ [] -> ∃ b off, a = some ⟨b, off, none⟩ /\ b < w.heap.size /\ ∀ k, k < xs.length -> At w b (off + k * 5) (xs.getD k In.nil)) := hcell
 clear hcell hn0 hb
 go_enter Tryz.func29, Tryz.ntmps29
 go_wp2
 go_loopw [7] (fun i wr => ∃ l : Nat, l <= xs.length /\ i = .int .i64 l /\ Hid (∀ j, j < l -> crossRB xs rows j = false) /\ w = wr) (fun i _ => xs.length - (intOf i).toNat)
 case atStart => exact ⟨0, by omega, rfl, fun j hj => by omega, rfl⟩
 case round =>
  obtain ⟨l, hl, rfl, HL, rfl⟩ := hrel
  by_cases hlt : l < xs.length
  ·obtain ⟨b, off, rfl, hb, hat⟩ := HC.out (fun h => by rw [h] at hlt; simp at hlt)
   have HA : Hid (∀ k, k < xs.length -> At w b (off + k * 5) (xs.getD k In.nil)) := hat
   obtain ⟨c0, _, _, _, _⟩ := hat l hlt
   clear hat HC
   obtain ⟨op, HO⟩ : ∃ op, Hid ((nth xs l).op = op) := ⟨_, rfl⟩
   replace c0 : w.cell? ⟨b, off + l * 5, none⟩ = some (.int .i64 op) := by rw [<- HO.out]; exact c0
   by_cases h20 : op = 20
   ·subst h20
    have HX : Hid (crossRB xs rows l = (List.range l).any (pairB xs rows l)) := by show _ = _; unfold crossRB; rw [HO.out]; rfl
    go_wp2
    go_loopw [8] (fun i wr => ∃ m : Nat, m <= l /\ i = .int .i64 m /\ Hid (∀ j, j < m -> pairB xs rows l j = false) /\ w = wr) (fun i _ => l - (intOf i).toNat)
    case atStart => exact ⟨0, by omega, rfl, fun j hj => by omega, rfl⟩
    case round =>
     obtain ⟨m, hml, rfl, HM, rfl⟩ := hrel
     by_cases hmlt : m < l
     ·obtain ⟨d0, _, _, _, _⟩ := HA.out m (by omega)
      obtain ⟨om, HOm⟩ : ∃ om, Hid ((nth xs m).op = om) := ⟨_, rfl⟩
      replace d0 : w.cell? ⟨b, off + m * 5, none⟩ = some (.int .i64 om) := by rw [<- HOm.out]; exact d0
      by_cases hm20 : om = 20
      ·subst hm20
       have HP : Hid (pairB xs rows l m = (decide (0 < cntU rows m l xs.length) && !allU rows m l xs.length)) := by show _ = _; unfold pairB; rw [HOm.out]; rfl
       go_wp2
       go_loopw [11, 9, 10] (fun i bo al wr => ∃ (p : Nat) (C : Int) (A : Bool), p <= xs.length /\ i = .int .i64 p /\ bo = .int .i64 C /\ al = .bool A /\ Hid (C = cntU rows m l p /\ A = allU rows m l p) /\ 0 <= C /\ C <= p /\ w = wr) (fun i _ _ _ => xs.length - (intOf i).toNat)
       case atStart => exact ⟨0, 0, true, by omega, rfl, rfl, rfl, ⟨rfl, rfl⟩, by omega, by omega, rfl⟩
       case round =>
        obtain ⟨p, C, A, hp, rfl, rfl, rfl, HCA, hC0, hC1, rfl⟩ := hrel
        by_cases hplt : p < xs.length
        ·have hcv := HB.out.out.cell (i := p) hplt
         obtain ⟨ys, HYs⟩ : ∃ ys, Hid (row rows p = ys) := ⟨_, rfl⟩
         have HSp : Hid (Sees .i64 w (V p) ys) := by rw [<- HYs.out]; exact HB.out.row p hplt
         have HLp : Hid (ys.length <= 64) := by rw [<- HYs.out]; exact HB.out.len p hplt
         obtain ⟨r1, H1⟩ : ∃ r, Hid (r = memB ys m) := ⟨_, rfl⟩
         obtain ⟨r2, H2⟩ : ∃ r, Hid (r = memB ys l) := ⟨_, rfl⟩
         have HN : Hid (cntU rows m l (p + 1) = C + (if r1 && r2 then 1 else 0) /\ allU rows m l (p + 1) = (A && !(r1 && !r2))) := by
          show _ /\ _
          rw [cntU, allU, HCA.out.1, HCA.out.2, HYs.out, H1.out, H2.out]
          exact ⟨rfl, rfl⟩
         cases r1
         ·go_wp2_with (go_at_call 64; go_must (refine (has_as HSp.out HLp.out H1).mono ?_); rintro e w1 ⟨rfl, rfl⟩)
          go_roundw
          case rel => exact ⟨p + 1, C, A, by omega, by go_num, rfl, rfl, ⟨by rw [HN.out.1]; simp, by rw [HN.out.2]; simp⟩, by omega, by omega, by trivial⟩
          case measure => simp [intOf]; omega
         ·cases r2
          ·go_wp2_with (first
            | (go_at_call 64; (have hq := H1; clear hq); go_must (refine (has_as HSp.out HLp.out H1).mono ?_); rintro e w1 ⟨rfl, rfl⟩; go_must (clear H1))
            | (go_at_call 64; (have hq := H2; clear hq); go_must (refine (has_as HSp.out HLp.out H2).mono ?_); rintro e w1 ⟨rfl, rfl⟩; go_must (clear H2)))
           go_roundw
           case rel => exact ⟨p + 1, C, false, by omega, by go_num, rfl, rfl, ⟨by rw [HN.out.1]; simp, by rw [HN.out.2]; simp⟩, by omega, by omega, by trivial⟩
           case measure => simp [intOf]; omega
          ·go_wp2_with (first
            | (go_at_call 64; (have hq := H1; clear hq); go_must (refine (has_as HSp.out HLp.out H1).mono ?_); rintro e w1 ⟨rfl, rfl⟩; go_must (clear H1))
            | (go_at_call 64; (have hq := H2; clear hq); go_must (refine (has_as HSp.out HLp.out H2).mono ?_); rintro e w1 ⟨rfl, rfl⟩; go_must (clear H2)))
           go_roundw
           case rel => exact ⟨p + 1, C + 1, A, by omega, by go_num, by go_num, rfl, ⟨by rw [HN.out.1]; simp, by rw [HN.out.2]; simp⟩, by omega, by omega, by trivial⟩
           case measure => simp [intOf]; omega
        ·obtain rfl : p = xs.length := by omega
         have HP2 : Hid (pairB xs rows l m = (decide (0 < C) && !A)) := by show _ = _; rw [HP.out, HCA.out.1, HCA.out.2]
         by_cases hC : 0 < C
         ·cases A
          ·have HF : Hid (R = some (l : Int)) := by
            show _ = _
            rw [hR.out, qCv HL.out hlt, optN]
            rw [HX.out, List.any_eq_true]
            exact ⟨m, List.mem_range.2 hmlt, by rw [HP2.out, decide_eq_true hC]; rfl⟩
           go_wp2
           go_ret2
           exact ⟨by rw [HF.out]; rfl, by trivial⟩
          ·go_wp2
           go_roundw
           case rel => exact ⟨m + 1, by omega, by go_num, fun j hj => by
            by_cases e : j = m
            ·rw [e, HP2.out]; simp
            ·exact HM.out j (by omega), by trivial⟩
           case measure => simp [intOf]; omega
         ·go_wp2
          go_roundw
          case rel => exact ⟨m + 1, by omega, by go_num, fun j hj => by
           by_cases e : j = m
           ·rw [e, HP2.out, decide_eq_false hC]; rfl
           ·exact HM.out j (by omega), by trivial⟩
          case measure => simp [intOf]; omega
      ·have hmb : (om != 20) = true := by simpa using hm20
       have HP : Hid (pairB xs rows l m = false) := by show _ = _; unfold pairB; rw [HOm.out, decide_eq_false hm20]; rfl
       go_wp2
       go_roundw
       case rel => exact ⟨m + 1, by omega, by go_num, fun j hj => by
        by_cases e : j = m
        ·rw [e, HP.out]
        ·exact HM.out j (by omega), by trivial⟩
       case measure => simp [intOf]; omega
     ·obtain rfl : m = l := by omega
      go_wp2
      go_roundw
      case rel => exact ⟨m + 1, by omega, by go_num, fun j hj => by
       by_cases e : j = m
       ·rw [e, HX.out, List.any_eq_false]
        intro x hx
        rw [HM.out x (List.mem_range.1 hx)]
        simp
       ·exact HL.out j (by omega), by trivial⟩
      case measure => simp [intOf]; omega
   ·have hlb : (op != 20) = true := by simpa using h20
    have HP : Hid (crossRB xs rows l = false) := by show _ = _; unfold crossRB; rw [HO.out, decide_eq_false h20]; rfl
    go_wp2
    go_roundw
    case rel => exact ⟨l + 1, by omega, by go_num, fun j hj => by
     by_cases e : j = l
     ·rw [e, HP.out]
     ·exact HL.out j (by omega), by trivial⟩
    case measure => simp [intOf]; omega
  ·obtain rfl : l = xs.length := by omega
   have HF : Hid (R = none) := by show _ = _; rw [hR.out, qBv HL.out]; rfl
   go_wp2
   go_ret2
   exact ⟨by rw [HF.out]; rfl, rfl⟩
theorem qCb {i : In} {op d a b imm f : Int} {l o : Bool} (hi : Hid (i = ⟨op, d, a, b, imm⟩)) (hf : Hid (f = i.far)) (hl : Hid (l = i.leads)) (ho : Hid (o = i.on)) (w : World) : Calls Tryz.prog 27 #[instV op d a b imm] w fun e w' => e = .returned (.tuple #[.int .i64 f, .bool l, .bool o]) /\ Below w.heap.size w w' := by
 have h := goes_any op d a b imm w
 rw [hf.out, hl.out, ho.out, hi.out]
 exact h
theorem body_at {xs : List In} {q : Nat} (hq : q < xs.length) {x : Int} (hx : x ∈ row (bodyL xs) q) : ∃ k : Nat, x = k /\ k < xs.length /\ (nth xs k).op = 20 := by
 rw [bodyL, bodyU_row hq, around_mem] at hx
 obtain ⟨l, hl, _, rfl⟩ := hx
 obtain ⟨k, hk, h20, rfl⟩ := loopsU_mem.1 hl
 exact ⟨k, rfl, hk, h20⟩
theorem loop_d {xs : List In} (h : Placed xs) {k : Nat} (hk : k < xs.length) (h20 : (nth xs k).op = 20) : 1 <= (nth xs k).d /\ (nth xs k).d <= 63 /\ 1 <= (nth xs k).imm /\ (nth xs k).imm <= 255 := by
 have hr := (qCf hk (h k hk)).1
 rcases qBm (nth xs k) with h | h | h | h
 ·rw [h.1] at hr; cases hr
 ·omega
 ·omega
 ·omega
theorem any_take {ys : List Int} {f : Int -> Bool} {j : Nat} (h : j < ys.length) : (ys.take (j + 1)).any f = ((ys.take j).any f || f (ys.getD j 0)) := by
 rw [take_at ys j h, List.any_append]
 simp
theorem any_yes {ys : List Int} {f : Int -> Bool} {j : Nat} (h : j < ys.length) (hf : f (ys.getD j 0) = true) : ys.any f = true := by
 rw [List.any_eq_true]
 exact ⟨_, getD_mem ys j h, hf⟩
set_option maxHeartbeats 3200000 in
theorem renter_any (v : Value) (xs : List In) (w : World) (hs : SeesI w v xs) (hn : xs.length <= 64) (hpl : Placed xs) (B : Nat) (V : Nat -> Value) (hb : SeesB w B xs.length V (bodyL xs)) {R : Option Int} (hR : Hid (R = optN (first (enterRB xs (bodyL xs)) xs.length))) :
  Calls Tryz.prog 30 #[v, .slice (some ⟨B, 0, none⟩) xs.length xs.length] w fun e w' => e = .returned (optI R) /\ Below w.heap.size w w' := by
 have HB : Hid (SeesB w B xs.length V (bodyL xs)) := hb
 have HPl : Hid (Placed xs) := hpl
 have hBlt := hb.out.lt
 obtain ⟨a, cap, rfl, hc, hm, hn0, hcell⟩ := hs
 have HC : Hid (xs ≠ [] -> ∃ b off, a = some ⟨b, off, none⟩ /\ b < w.heap.size /\ ∀ k, k < xs.length -> At w b (off + k * 5) (xs.getD k In.nil)) := hcell
 clear hcell hn0 hb hpl
 go_enter Tryz.func30, Tryz.ntmps30
 go_wp2
 go_loopw [7] (fun i wr => ∃ p : Nat, p <= xs.length /\ i = .int .i64 p /\ Hid (∀ j, j < p -> enterRB xs (bodyL xs) j = false) /\ Below w.heap.size w wr) (fun i _ => xs.length - (intOf i).toNat)
 case atStart => exact ⟨0, by omega, rfl, fun j hj => by omega, Below.refl _ _⟩
 case round =>
  obtain ⟨p, hp, rfl, HP, hbe⟩ := hrel
  have hsz := hbe.size
  by_cases hlt : p < xs.length
  ·obtain ⟨b, off, rfl, hb, hat⟩ := HC.out (fun h => by rw [h] at hlt; simp at hlt)
   have HA : Hid (∀ w1, Below w.heap.size w w1 -> ∀ k, k < xs.length -> At w1 b (off + k * 5) (xs.getD k In.nil)) := fun w1 h1 k hk => (hat k hk).below h1 hb
   clear hat HC
   obtain ⟨c0, c1, c2, c3, c4⟩ := HA.out _ hbe p hlt
   obtain ⟨⟨op, d, a, bb, imm⟩, HI⟩ : ∃ i, Hid (nth xs p = i) := ⟨_, rfl⟩
   have HI2 : xs.getD p In.nil = ⟨op, d, a, bb, imm⟩ := HI.out
   rw [HI2] at c0 c1 c2 c3 c4
   clear HI2
   simp only at c0 c1 c2 c3 c4
   have hbr : b < wr.heap.size := by omega
   obtain ⟨f, HF⟩ : ∃ f, Hid (f = (nth xs p).far) := ⟨_, rfl⟩
   obtain ⟨l, HL⟩ : ∃ l, Hid (l = (nth xs p).leads) := ⟨_, rfl⟩
   obtain ⟨o, HO⟩ : ∃ o, Hid (o = (nth xs p).on) := ⟨_, rfl⟩
   have hfb := far_bd (nth xs p)
   rw [<- HF.out] at hfb
   have HX : Hid (enterRB xs (bodyL xs) p = (l && (decide (0 <= f) && (row (bodyL xs) ((p : Int) + f).toNat).any (outB xs (bodyL xs) p (p + f))))) := by show _ = _; rw [HF.out, HL.out]; rfl
   cases l
   ·go_wp2_with (go_at_call 27; go_must (refine (qCb HI HF HL HO _).mono ?_); rintro e w1 ⟨rfl, hb1⟩; go_must (have hbe1 := hbe.trans (hb1.mono hsz); clear hb1))
    go_roundw
    case rel => exact ⟨p + 1, by omega, by go_num, fun j hj => by
     by_cases e : j = p
     ·rw [e, HX.out]; rfl
     ·exact HP.out j (by omega), hbe1⟩
    case measure => simp [intOf]; omega
   ·by_cases hf0 : f < 0
    ·go_wp2_with (go_at_call 27; go_must (refine (qCb HI HF HL HO _).mono ?_); rintro e w1 ⟨rfl, hb1⟩; go_must (have hbe1 := hbe.trans (hb1.mono hsz); clear hb1))
     go_roundw
     case rel => exact ⟨p + 1, by omega, by go_num, fun j hj => by
      by_cases e : j = p
      ·rw [e, HX.out, decide_eq_false (by omega)]; rfl
      ·exact HP.out j (by omega), hbe1⟩
     case measure => simp [intOf]; omega
    ·have hto : (p : Int) + f < xs.length := by
      have := (qCf hlt (HPl.out p hlt)).2.2.1
      rw [<- HF.out] at this
      exact this
     obtain ⟨q, hq⟩ : ∃ q : Nat, (p : Int) + f = q := ⟨((p : Int) + f).toNat, by omega⟩
     have hqlt : q < xs.length := by omega
     obtain ⟨ys, HY⟩ : ∃ ys, Hid (row (bodyL xs) q = ys) := ⟨_, rfl⟩
     obtain ⟨zs, HZ⟩ : ∃ zs, Hid (row (bodyL xs) p = zs) := ⟨_, rfl⟩
     have HX2 : Hid (enterRB xs (bodyL xs) p = ys.any (outB xs (bodyL xs) p q)) := by
      show _ = _
      rw [HX.out, decide_eq_true (by omega), hq, <- HY.out]
      rfl
     have HSq : Hid (∀ w1, Below w.heap.size w w1 -> Sees .i64 w1 (V q) ys) := fun w1 h1 => by rw [<- HY.out]; exact (HB.out.row q hqlt).below h1 (Nat.le_refl _)
     have HSp : Hid (∀ w1, Below w.heap.size w w1 -> Sees .i64 w1 (V p) zs) := fun w1 h1 => by rw [<- HZ.out]; exact (HB.out.row p hlt).below h1 (Nat.le_refl _)
     have HLq : Hid (ys.length <= 64) := by rw [<- HY.out]; exact HB.out.len q hqlt
     have HLp : Hid (zs.length <= 64) := by rw [<- HZ.out]; exact HB.out.len p hlt
     have HVq : Hid (∀ w1, Below w.heap.size w w1 -> w1.cell? ⟨B, q, none⟩ = some (V q) /\ w1.cell? ⟨B, p, none⟩ = some (V p)) := fun w1 h1 => by
      rw [h1.cell (p := ⟨B, q, none⟩) hBlt, h1.cell (p := ⟨B, p, none⟩) hBlt]
      exact ⟨HB.out.out.cell hqlt, HB.out.out.cell hlt⟩
     obtain ⟨aq, cq, hVq⟩ := (HSq.out w (Below.refl _ _)).shape
     have hys := HLq.out
     have HYm : Hid (∀ x ∈ ys, ∃ k : Nat, x = k /\ k < xs.length /\ (nth xs k).op = 20) := fun x hx => by
      rw [<- HY.out] at hx
      exact body_at hqlt hx
     have hf0' : 0 <= f := by omega
     clear hf0 HX
     go_wp2_with (go_at_call 27; go_must (refine (qCb HI HF HL HO _).mono ?_); rintro e w1 ⟨rfl, hb1⟩; go_must (have hbe1 := hbe.trans (hb1.mono hsz); clear hb1))
     go_loopw [11] (fun i wr => ∃ j : Nat, j <= ys.length /\ i = .int .i64 j /\ Hid ((ys.take j).any (outB xs (bodyL xs) p q) = false) /\ Below w.heap.size w wr) (fun i _ => ys.length - (intOf i).toNat)
     case atStart => exact ⟨0, by omega, rfl, rfl, hbe1⟩
     case round =>
      clear c0 c1 c2 c3 c4 hbe1
      obtain ⟨j, hj, rfl, HJ, hbq⟩ := hrel
      have hsq := hbq.size
      obtain ⟨e0, e1⟩ := HVq.out _ hbq
      have hBr : B < wr.heap.size := by omega
      rw [hVq] at e0
      by_cases hjn : j < ys.length
      ·obtain ⟨aq', cq', ev, _, _, _, _, hcl⟩ := HSq.out _ hbq
       obtain ⟨bq, offq, ea, hbq1, hcq⟩ := hcl (fun h => by rw [h] at hjn; simp at hjn)
       obtain rfl : aq = some ⟨bq, offq, none⟩ := by rw [hVq] at ev; injection ev with e1 _ _; rw [e1, ea]
       have g0 := hcq j hjn
       clear ev ea hcq hcl
       obtain ⟨k, hk1, hk2, hk3⟩ := HYm.out _ (getD_mem ys j hjn)
       rw [hk1] at g0
       have HK : Hid (ys.getD j 0 = (k : Int)) := hk1
       clear hk1
       obtain ⟨_, k1, _, _, _⟩ := HA.out _ hbq k hk2
       obtain ⟨dk, HD⟩ : ∃ dk, Hid ((nth xs k).d = dk) := ⟨_, rfl⟩
       replace k1 : wr.cell? ⟨b, off + k * 5 + 1, none⟩ = some (.int .i64 dk) := by rw [<- HD.out]; exact k1
       have hdk : 1 <= dk /\ dk <= 63 := by have := loop_d HPl.out hk2 hk3; rw [HD.out] at this; omega
       clear hk3
       obtain ⟨r, Hr⟩ : ∃ r, Hid (r = memB zs k) := ⟨_, rfl⟩
       have HT : Hid ((ys.take (j + 1)).any (outB xs (bodyL xs) p q) = (!r && decide ((q : Int) ≠ k - dk))) := by
        show _ = _
        rw [any_take hjn, HJ.out, HK.out]
        unfold outB
        rw [HZ.out, Hr.out, show ((k : Int)).toNat = k by omega, HD.out]
        rfl
       cases r
       ·by_cases hne : (q : Int) = k - dk
        ·have hneb : ((q : Int) != (k : Int) - dk) = false := by simpa using hne
         have HNE : Hid ((q : Int) = k - dk) := hne
         clear hne
         go_wp2_with (go_at_call 64; go_must (refine (has_as (HSp.out _ hbq) HLp.out Hr).mono ?_); rintro e w1 ⟨rfl, rfl⟩)
         go_roundw
         case rel => exact ⟨j + 1, by omega, by go_num, by show _ = _; rw [HT.out, decide_eq_false (by have := HNE.out; omega)]; rfl, hbq⟩
         case measure => simp [intOf]; omega
        ·have hneb : ((q : Int) != (k : Int) - dk) = true := by simpa using hne
         have HF2 : Hid (R = some (p : Int)) := by
          show _ = _
          rw [hR.out, qCv HP.out hlt, optN]
          rw [HX2.out]
          refine any_yes hjn ?_
          have h1 := HT.out
          rw [any_take hjn, HJ.out, Bool.false_or] at h1
          rw [h1, decide_eq_true hne]; rfl
         go_wp2_with (go_at_call 64; go_must (refine (has_as (HSp.out _ hbq) HLp.out Hr).mono ?_); rintro e w1 ⟨rfl, rfl⟩)
         go_ret2
         exact ⟨by rw [HF2.out]; rfl, hbq⟩
       ·go_wp2_with (go_at_call 64; go_must (refine (has_as (HSp.out _ hbq) HLp.out Hr).mono ?_); rintro e w1 ⟨rfl, rfl⟩)
        go_roundw
        case rel => exact ⟨j + 1, by omega, by go_num, by show _ = _; rw [HT.out]; rfl, hbq⟩
        case measure => simp [intOf]; omega
      ·obtain rfl : j = ys.length := by omega
       go_wp2
       go_roundw
       case rel => exact ⟨p + 1, by omega, by go_num, fun i hi => by
        by_cases e : i = p
        ·rw [e, HX2.out]; have := HJ.out; rwa [List.take_length] at this
        ·exact HP.out i (by omega), hbq⟩
       case measure => simp [intOf]; omega
  ·obtain rfl : p = xs.length := by omega
   have HF : Hid (R = none) := by show _ = _; rw [hR.out, qBv HP.out]; rfl
   go_wp2
   go_ret2
   exact ⟨by rw [HF.out]; rfl, hbe⟩
theorem drop_int {ys : List Int} {j : Nat} (h : j < ys.length) : ys.drop j = ys.getD j 0 :: ys.drop (j + 1) := by
 rw [List.drop_eq_getElem_cons h]; simp [List.getD, h]
set_option maxHeartbeats 3200000 in
theorem rcost_any (v : Value) (xs : List In) (w : World) (hs : SeesI w v xs) (hn : xs.length <= 64) (hpl : Placed xs) (B : Nat) (V : Nat -> Value) (hb : SeesB w B xs.length V (bodyL xs)) {R : Int} (hR : Hid (R = costR xs (bodyL xs) xs.length)) :
  Calls Tryz.prog 31 #[v, .slice (some ⟨B, 0, none⟩) xs.length xs.length] w fun e w' => e = .returned (.int .i64 R) /\ w = w' := by
 have HB : Hid (SeesB w B xs.length V (bodyL xs)) := hb
 have HPl : Hid (Placed xs) := hpl
 have hBlt := hb.out.lt
 obtain ⟨a, cap, rfl, hc, hm, hn0, hcell⟩ := hs
 have HC : Hid (xs ≠ [] -> ∃ b off, a = some ⟨b, off, none⟩ /\ b < w.heap.size /\ ∀ k, k < xs.length -> At w b (off + k * 5) (xs.getD k In.nil)) := hcell
 clear hcell hn0 hb hpl
 go_enter Tryz.func31, Tryz.ntmps31
 go_wp2
 go_loopw [6, 5] (fun i s wr => ∃ (p : Nat) (S : Int), p <= xs.length /\ i = .int .i64 p /\ s = .int .i64 S /\ Hid (S = costR xs (bodyL xs) p) /\ 0 <= S /\ S <= 65536 * p /\ w = wr) (fun i _ _ => xs.length - (intOf i).toNat)
 case atStart => exact ⟨0, 0, by omega, rfl, rfl, rfl, by omega, by omega, rfl⟩
 case round =>
  obtain ⟨p, S, hp, rfl, rfl, HS, hS0, hS1, rfl⟩ := hrel
  by_cases hlt : p < xs.length
  ·obtain ⟨b, off, rfl, hb, hat⟩ := HC.out (fun h => by rw [h] at hlt; simp at hlt)
   have HA : Hid (∀ k, k < xs.length -> At w b (off + k * 5) (xs.getD k In.nil)) := hat
   clear hat HC
   obtain ⟨ys, HY⟩ : ∃ ys, Hid (row (bodyL xs) p = ys) := ⟨_, rfl⟩
   have HSq : Hid (Sees .i64 w (V p) ys) := by rw [<- HY.out]; exact HB.out.row p hlt
   have HLq : Hid (ys.length <= 64) := by rw [<- HY.out]; exact HB.out.len p hlt
   have hys := HLq.out
   have hcv := HB.out.out.cell (i := p) hlt
   obtain ⟨aq, cq, hVq⟩ := HSq.out.shape
   rw [hVq] at hcv
   have HYm : Hid (∀ x ∈ ys, ∃ k : Nat, x = k /\ k < xs.length /\ (nth xs k).op = 20) := fun x hx => by
    rw [<- HY.out] at hx
    exact body_at hlt hx
   have HEr : Hid (1 <= earlyR xs ys 1 /\ earlyR xs ys 1 <= 65536) := by rw [<- HY.out]; have := early_ok HPl.out hlt; exact ⟨this.1, this.2.1⟩
   have HN : Hid (costR xs (bodyL xs) (p + 1) = S + earlyR xs ys 1) := by show _ = _; rw [costR, HS.out, HY.out]
   go_wp2
   go_loopw [8, 7] (fun i s wr => ∃ (j : Nat) (t : Int), j <= ys.length /\ i = .int .i64 j /\ s = .int .i64 t /\ Hid (earlyR xs ys 1 = earlyR xs (ys.drop j) t) /\ 1 <= t /\ t <= 65536 /\ w = wr) (fun i _ _ => ys.length - (intOf i).toNat)
   case atStart => exact ⟨0, 1, by omega, rfl, rfl, rfl, by omega, by omega, rfl⟩
   case round =>
    obtain ⟨j, t, hj, rfl, rfl, HT, ht0, ht1, rfl⟩ := hrel
    by_cases hjn : j < ys.length
    ·by_cases ht : t <= 256
     ·obtain ⟨aq', cq', ev, _, _, _, _, hcl⟩ := HSq.out
      obtain ⟨bq, offq, ea, hbq1, hcq⟩ := hcl (fun h => by rw [h] at hjn; simp at hjn)
      obtain rfl : aq = some ⟨bq, offq, none⟩ := by rw [hVq] at ev; injection ev with e1 _ _; rw [e1, ea]
      have g0 := hcq j hjn
      clear ev ea hcq hcl
      obtain ⟨k, hk1, hk2, hk3⟩ := HYm.out _ (getD_mem ys j hjn)
      rw [hk1] at g0
      have HK : Hid (ys.getD j 0 = (k : Int)) := hk1
      clear hk1
      obtain ⟨_, _, _, _, k1⟩ := HA.out k hk2
      obtain ⟨ik, HD⟩ : ∃ ik, Hid ((nth xs k).imm = ik) := ⟨_, rfl⟩
      replace k1 : w.cell? ⟨b, off + k * 5 + 4, none⟩ = some (.int .i64 ik) := by rw [<- HD.out]; exact k1
      have hik : 1 <= ik /\ ik <= 255 := by have := loop_d HPl.out hk2 hk3; rw [HD.out] at this; omega
      clear hk3
      have hmul : 0 <= t * (ik + 1) /\ t * (ik + 1) <= 256 * 256 := ⟨Int.mul_nonneg (by omega) (by omega), Int.mul_le_mul ht (by omega) (by omega) (by omega)⟩
      have hmg := mul_grow ht0 (show 0 <= ik by omega)
      have HT2 : Hid (earlyR xs ys 1 = earlyR xs (ys.drop (j + 1)) (t * (ik + 1))) := by
       show _ = _
       rw [HT.out, drop_int hjn, earlyR, if_pos ht, HK.out, show ((k : Int)).toNat = k by omega, HD.out]
      go_wp2
      go_roundw
      case rel => exact ⟨j + 1, t * (ik + 1), by omega, by go_num, by go_num, HT2, by omega, by omega, by trivial⟩
      case measure => simp [intOf]; omega
     ·have HE : Hid (earlyR xs ys 1 = t) := by show _ = _; rw [HT.out, drop_int hjn, earlyR, if_neg ht]
      go_wp2
      go_roundw
      case rel => exact ⟨p + 1, S + t, by omega, by go_num, by go_num, by show _ = _; rw [HN.out, HE.out], by omega, by omega, by trivial⟩
      case measure => simp [intOf]; omega
    ·obtain rfl : j = ys.length := by omega
     have HE : Hid (earlyR xs ys 1 = t) := by show _ = _; rw [HT.out, List.drop_length]; rfl
     go_wp2
     go_roundw
     case rel => exact ⟨p + 1, S + t, by omega, by go_num, by go_num, by show _ = _; rw [HN.out, HE.out], by omega, by omega, by trivial⟩
     case measure => simp [intOf]; omega
  ·obtain rfl : p = xs.length := by omega
   go_wp2
   go_ret
   exact ⟨ri (by rw [hR.out, HS.out]), by trivial⟩
theorem qCl {i : In} {op d a b imm : Int} {r : Bool} (hi : Hid (i = ⟨op, d, a, b, imm⟩)) (hr : Hid (r = i.right)) (w : World) : Calls Tryz.prog 26 #[instV op d a b imm] w fun e w' => e = .returned (.bool r) /\ Below w.heap.size w w' := by
 have h := qBw op d a b imm w
 rw [hr.out, hi.out]
 exact h
set_option maxHeartbeats 3200000 in
theorem rcheck_any (v : Value) (xs : List In) (w : World) (hs : SeesI w v xs) {P E : Int} (hP : Hid (checkL xs = (P, E))) :
  Calls Tryz.prog 15 #[v] w fun e w' => e = .returned (.tuple #[.int .i64 P, .int .i64 E]) /\ Below w.heap.size w w' := by
 have hP : Hid (checkR xs = (P, E)) := by show _ = _; rw [checkR_eq]; exact hP.out
 have HS := keepH hs
 obtain ⟨a, cap, rfl, hc, hm, hn0, hcell⟩ := hs
 have HC : Hid (xs ≠ [] -> ∃ b off, a = some ⟨b, off, none⟩ /\ b < w.heap.size /\ ∀ k, k < xs.length -> At w b (off + k * 5) (xs.getD k In.nil)) := hcell
 clear hcell hn0
 by_cases h0 : xs.length = 0
 ·have HE : Hid (P = 0 /\ E = 10) := by have := hP.out; unfold checkR at this; rw [if_pos h0] at this; injection this with a b; exact ⟨a.symm, b.symm⟩
  rw [h0]
  go_enter Tryz.func15, Tryz.ntmps15
  go_wp2
  go_ret2
  exact ⟨r2i HE.out.1.symm HE.out.2.symm, Below.refl _ _⟩
 have h0b : ((xs.length : Int) == 0) = false := by simp; exact fun h => h0 (by rw [h]; rfl)
 by_cases h64 : 64 < xs.length
 ·have HE : Hid (P = 0 /\ E = 11) := by have := hP.out; unfold checkR at this; rw [if_neg h0, if_pos h64] at this; injection this with a b; exact ⟨a.symm, b.symm⟩
  go_enter Tryz.func15, Tryz.ntmps15
  go_wp2
  go_ret2
  exact ⟨r2i HE.out.1.symm HE.out.2.symm, Below.refl _ _⟩
 have HP : Hid ((P, E) = match first (placeB xs) xs.length with
   | some k => ((k : Int), placeE xs k)
   | none => match first (crossRB xs (bodyL xs)) xs.length with
    | some t => ((t : Int), 31)
    | none => match first (enterRB xs (bodyL xs)) xs.length with
     | some p => ((p : Int), 31)
     | none => if 256 < costR xs (bodyL xs) xs.length then (0, 32) else (0, 0)) := by
  have h := hP.out
  unfold checkR at h
  rw [if_neg h0, if_neg h64] at h
  exact h.symm
 clear hP
 obtain ⟨b, off, rfl, hb, hat⟩ := HC.out (fun h => by rw [h] at h0; simp at h0)
 have HA : Hid (∀ w1, Below w.heap.size w w1 -> ∀ k, k < xs.length -> At w1 b (off + k * 5) (xs.getD k In.nil)) := fun w1 h1 k hk => (hat k hk).below h1 hb
 clear hat HC
 go_enter Tryz.func15, Tryz.ntmps15
 go_wp2
 go_loopw [5] (fun i wr => ∃ k : Nat, k <= xs.length /\ i = .int .i64 k /\ Hid (∀ j, j < k -> placeB xs j = false) /\ Below w.heap.size w wr) (fun i _ => xs.length - (intOf i).toNat)
 case atStart => exact ⟨0, by omega, rfl, fun j hj => by omega, Below.refl _ _⟩
 case round =>
  obtain ⟨k, hk, rfl, HK, hbe⟩ := hrel
  have hsz := hbe.size
  by_cases hlt : k < xs.length
  ·obtain ⟨c0, c1, c2, c3, c4⟩ := HA.out _ hbe k hlt
   obtain ⟨⟨op, d, a, bb, imm⟩, HI⟩ : ∃ i, Hid (nth xs k = i) := ⟨_, rfl⟩
   have HI2 : xs.getD k In.nil = ⟨op, d, a, bb, imm⟩ := HI.out
   rw [HI2] at c0 c1 c2 c3 c4
   have HA2 : Hid (∀ w1, Below w.heap.size w w1 -> At w1 b (off + k * 5) ⟨op, d, a, bb, imm⟩) := fun w1 h1 => by rw [<- HI2]; exact HA.out w1 h1 k hlt
   clear HI2
   simp only at c0 c1 c2 c3 c4
   have hbr : b < wr.heap.size := by omega
   obtain ⟨r, HR⟩ : ∃ r, Hid (r = (nth xs k).right) := ⟨_, rfl⟩
   obtain ⟨f, HF⟩ : ∃ f, Hid (f = (nth xs k).far) := ⟨_, rfl⟩
   obtain ⟨l, HL⟩ : ∃ l, Hid (l = (nth xs k).leads) := ⟨_, rfl⟩
   obtain ⟨o, HO⟩ : ∃ o, Hid (o = (nth xs k).on) := ⟨_, rfl⟩
   have hfb := far_bd (nth xs k)
   rw [<- HF.out] at hfb
   have hfl : l = false -> f = 0 := by
    intro h
    rcases qBm (nth xs k) with g | g | g | g
    ·rw [HF.out, g.2.1]
    ·rw [HL.out, g.2.2.2.2.1] at h; cases h
    ·rw [HL.out, g.2.2.2.1] at h; cases h
    ·rw [HF.out, g.2.2.1]
   have HFL : Hid (l = false -> f = 0) := hfl
   clear hfl
   have HX : Hid (placeE xs k = if r = false then 12 else if (k : Int) + f < 0 ∨ (xs.length : Int) <= k + f then 30 else if o = true /\ k + 1 = xs.length then 36 else 0) := by show _ = _; rw [HR.out, HF.out, HO.out]; rfl
   have HY : Hid (∀ q, placeE xs k = q -> q ≠ 0 -> (k : Int) = P /\ q = E) := fun q hq hq0 => by
    have h := HP.out
    rw [qCv HK.out hlt (by unfold placeB; rw [hq]; simpa using hq0)] at h
    dsimp only at h
    injection h with h1 h2
    exact ⟨h1.symm, by rw [h2, hq]⟩
   have HZ : Hid (placeE xs k = 0 -> ∀ j, j < k + 1 -> placeB xs j = false) := fun hq j hj => by
    by_cases e : j = k
    ·rw [e]; unfold placeB; rw [hq]; rfl
    ·exact HK.out j (by omega)
   cases r
   ·have HE : Hid ((k : Int) = P /\ 12 = E) := HY.out 12 (by rw [HX.out]; rfl) (by decide)
    go_wp2_with (first
     | (go_at_call 26; go_must (refine (qCl HI HR _).mono ?_); rintro e w1 ⟨rfl, hb1⟩; go_must (have hbe1 := hbe.trans (hb1.mono hsz); clear hb1; obtain ⟨d0, d1, d2, d3, d4⟩ := HA2.out w1 hbe1; clear c0 c1 c2 c3 c4; have hsz1 := hbe1.size; have hbr1 : b < w1.heap.size := by omega))
     | (go_at_call 27; go_must (refine (qCb HI HF HL HO _).mono ?_); rintro e w2 ⟨rfl, hb2⟩; go_must (have hbe2 := hbe1.trans (hb2.mono hbe1.size); clear hb2 d0 d1 d2 d3 d4)))
    go_ret2
    exact ⟨r2i HE.out.1 HE.out.2, hbe1⟩
   ·cases l
    ·obtain rfl : f = 0 := HFL.out rfl
     cases o
     ·have HE : Hid (∀ j, j < k + 1 -> placeB xs j = false) := HZ.out (by rw [HX.out]; rw [if_neg (by simp), if_neg (by omega), if_neg (by simp)])
      go_wp2_with (first
       | (go_at_call 26; go_must (refine (qCl HI HR _).mono ?_); rintro e w1 ⟨rfl, hb1⟩; go_must (have hbe1 := hbe.trans (hb1.mono hsz); clear hb1; obtain ⟨d0, d1, d2, d3, d4⟩ := HA2.out w1 hbe1; clear c0 c1 c2 c3 c4; have hsz1 := hbe1.size; have hbr1 : b < w1.heap.size := by omega))
       | (go_at_call 27; go_must (refine (qCb HI HF HL HO _).mono ?_); rintro e w2 ⟨rfl, hb2⟩; go_must (have hbe2 := hbe1.trans (hb2.mono hbe1.size); clear hb2 d0 d1 d2 d3 d4)))
      go_roundw
      case rel => exact ⟨k + 1, by omega, by go_num, HE, hbe2⟩
      case measure => simp [intOf]; omega
     ·by_cases he : k + 1 = xs.length
      ·have heb : ((k : Int) + 1 == (xs.length : Int)) = true := by simp; omega
       have HE : Hid ((k : Int) = P /\ 36 = E) := HY.out 36 (by rw [HX.out]; rw [if_neg (by simp), if_neg (by omega), if_pos ⟨rfl, he⟩]) (by decide)
       go_wp2_with (first
        | (go_at_call 26; go_must (refine (qCl HI HR _).mono ?_); rintro e w1 ⟨rfl, hb1⟩; go_must (have hbe1 := hbe.trans (hb1.mono hsz); clear hb1; obtain ⟨d0, d1, d2, d3, d4⟩ := HA2.out w1 hbe1; clear c0 c1 c2 c3 c4; have hsz1 := hbe1.size; have hbr1 : b < w1.heap.size := by omega))
        | (go_at_call 27; go_must (refine (qCb HI HF HL HO _).mono ?_); rintro e w2 ⟨rfl, hb2⟩; go_must (have hbe2 := hbe1.trans (hb2.mono hbe1.size); clear hb2 d0 d1 d2 d3 d4)))
       go_ret2
       exact ⟨r2i HE.out.1 HE.out.2, hbe2⟩
      ·have heb : ((k : Int) + 1 == (xs.length : Int)) = false := by simp; omega
       have HE : Hid (∀ j, j < k + 1 -> placeB xs j = false) := HZ.out (by rw [HX.out]; rw [if_neg (by simp), if_neg (by omega), if_neg (by simp; omega)])
       go_wp2_with (first
        | (go_at_call 26; go_must (refine (qCl HI HR _).mono ?_); rintro e w1 ⟨rfl, hb1⟩; go_must (have hbe1 := hbe.trans (hb1.mono hsz); clear hb1; obtain ⟨d0, d1, d2, d3, d4⟩ := HA2.out w1 hbe1; clear c0 c1 c2 c3 c4; have hsz1 := hbe1.size; have hbr1 : b < w1.heap.size := by omega))
        | (go_at_call 27; go_must (refine (qCb HI HF HL HO _).mono ?_); rintro e w2 ⟨rfl, hb2⟩; go_must (have hbe2 := hbe1.trans (hb2.mono hbe1.size); clear hb2 d0 d1 d2 d3 d4)))
       go_roundw
       case rel => exact ⟨k + 1, by omega, by go_num, HE, hbe2⟩
       case measure => simp [intOf]; omega
    ·by_cases h1 : (k : Int) + f < 0
     ·have HE : Hid ((k : Int) = P /\ 30 = E) := HY.out 30 (by rw [HX.out]; rw [if_neg (by simp), if_pos (.inl h1)]) (by decide)
      go_wp2_with (first
       | (go_at_call 26; go_must (refine (qCl HI HR _).mono ?_); rintro e w1 ⟨rfl, hb1⟩; go_must (have hbe1 := hbe.trans (hb1.mono hsz); clear hb1; obtain ⟨d0, d1, d2, d3, d4⟩ := HA2.out w1 hbe1; clear c0 c1 c2 c3 c4; have hsz1 := hbe1.size; have hbr1 : b < w1.heap.size := by omega))
       | (go_at_call 27; go_must (refine (qCb HI HF HL HO _).mono ?_); rintro e w2 ⟨rfl, hb2⟩; go_must (have hbe2 := hbe1.trans (hb2.mono hbe1.size); clear hb2 d0 d1 d2 d3 d4)))
      go_ret2
      exact ⟨r2i HE.out.1 HE.out.2, hbe2⟩
     ·by_cases h2 : (xs.length : Int) <= k + f
      ·have h3 : (xs.length : Int) - 1 < k + f := by omega
       have HE : Hid ((k : Int) = P /\ 30 = E) := HY.out 30 (by rw [HX.out]; rw [if_neg (by simp), if_pos (.inr h2)]) (by decide)
       go_wp2_with (first
        | (go_at_call 26; go_must (refine (qCl HI HR _).mono ?_); rintro e w1 ⟨rfl, hb1⟩; go_must (have hbe1 := hbe.trans (hb1.mono hsz); clear hb1; obtain ⟨d0, d1, d2, d3, d4⟩ := HA2.out w1 hbe1; clear c0 c1 c2 c3 c4; have hsz1 := hbe1.size; have hbr1 : b < w1.heap.size := by omega))
        | (go_at_call 27; go_must (refine (qCb HI HF HL HO _).mono ?_); rintro e w2 ⟨rfl, hb2⟩; go_must (have hbe2 := hbe1.trans (hb2.mono hbe1.size); clear hb2 d0 d1 d2 d3 d4)))
       go_ret2
       exact ⟨r2i HE.out.1 HE.out.2, hbe2⟩
      ·have h3 : ¬ (xs.length : Int) - 1 < k + f := by omega
       cases o
       ·have HE : Hid (∀ j, j < k + 1 -> placeB xs j = false) := HZ.out (by rw [HX.out]; rw [if_neg (by simp), if_neg (by omega), if_neg (by simp)])
        go_wp2_with (first
         | (go_at_call 26; go_must (refine (qCl HI HR _).mono ?_); rintro e w1 ⟨rfl, hb1⟩; go_must (have hbe1 := hbe.trans (hb1.mono hsz); clear hb1; obtain ⟨d0, d1, d2, d3, d4⟩ := HA2.out w1 hbe1; clear c0 c1 c2 c3 c4; have hsz1 := hbe1.size; have hbr1 : b < w1.heap.size := by omega))
         | (go_at_call 27; go_must (refine (qCb HI HF HL HO _).mono ?_); rintro e w2 ⟨rfl, hb2⟩; go_must (have hbe2 := hbe1.trans (hb2.mono hbe1.size); clear hb2 d0 d1 d2 d3 d4)))
        go_roundw
        case rel => exact ⟨k + 1, by omega, by go_num, HE, hbe2⟩
        case measure => simp [intOf]; omega
       ·by_cases he : k + 1 = xs.length
        ·have heb : ((k : Int) + 1 == (xs.length : Int)) = true := by simp; omega
         have HE : Hid ((k : Int) = P /\ 36 = E) := HY.out 36 (by rw [HX.out]; rw [if_neg (by simp), if_neg (by omega), if_pos ⟨rfl, he⟩]) (by decide)
         go_wp2_with (first
          | (go_at_call 26; go_must (refine (qCl HI HR _).mono ?_); rintro e w1 ⟨rfl, hb1⟩; go_must (have hbe1 := hbe.trans (hb1.mono hsz); clear hb1; obtain ⟨d0, d1, d2, d3, d4⟩ := HA2.out w1 hbe1; clear c0 c1 c2 c3 c4; have hsz1 := hbe1.size; have hbr1 : b < w1.heap.size := by omega))
          | (go_at_call 27; go_must (refine (qCb HI HF HL HO _).mono ?_); rintro e w2 ⟨rfl, hb2⟩; go_must (have hbe2 := hbe1.trans (hb2.mono hbe1.size); clear hb2 d0 d1 d2 d3 d4)))
         go_ret2
         exact ⟨r2i HE.out.1 HE.out.2, hbe2⟩
        ·have heb : ((k : Int) + 1 == (xs.length : Int)) = false := by simp; omega
         have HE : Hid (∀ j, j < k + 1 -> placeB xs j = false) := HZ.out (by rw [HX.out]; rw [if_neg (by simp), if_neg (by omega), if_neg (by simp; omega)])
         go_wp2_with (first
          | (go_at_call 26; go_must (refine (qCl HI HR _).mono ?_); rintro e w1 ⟨rfl, hb1⟩; go_must (have hbe1 := hbe.trans (hb1.mono hsz); clear hb1; obtain ⟨d0, d1, d2, d3, d4⟩ := HA2.out w1 hbe1; clear c0 c1 c2 c3 c4; have hsz1 := hbe1.size; have hbr1 : b < w1.heap.size := by omega))
          | (go_at_call 27; go_must (refine (qCb HI HF HL HO _).mono ?_); rintro e w2 ⟨rfl, hb2⟩; go_must (have hbe2 := hbe1.trans (hb2.mono hbe1.size); clear hb2 d0 d1 d2 d3 d4)))
         go_roundw
         case rel => exact ⟨k + 1, by omega, by go_num, HE, hbe2⟩
         case measure => simp [intOf]; omega
  ·obtain rfl : k = xs.length := by omega
   have HPl : Hid (Placed xs) := HK.out
   have HP2 : Hid ((P, E) = match first (crossRB xs (bodyL xs)) xs.length with
    | some t => ((t : Int), 31)
    | none => match first (enterRB xs (bodyL xs)) xs.length with
     | some p => ((p : Int), 31)
     | none => if 256 < costR xs (bodyL xs) xs.length then (0, 32) else (0, 0)) := by
    have h := HP.out
    rw [qBv HK.out] at h
    exact h
   clear HP
   have HSr : Hid (SeesI wr (.slice (some ⟨b, off, none⟩) xs.length cap) xs) := HS.out.below hbe
   obtain ⟨R, HR⟩ : ∃ R, Hid (R = first (crossRB xs (bodyL xs)) xs.length) := ⟨_, rfl⟩
   rw [<- HR.out] at HP2
   have HR2 : Hid (optN R = optN (first (crossRB xs (bodyL xs)) xs.length)) := by show _ = _; rw [HR.out]
   obtain ⟨I, HI⟩ : ∃ I, Hid (I = first (enterRB xs (bodyL xs)) xs.length) := ⟨_, rfl⟩
   rw [<- HI.out] at HP2
   have HI2 : Hid (optN I = optN (first (enterRB xs (bodyL xs)) xs.length)) := by show _ = _; rw [HI.out]
   obtain ⟨C, HCo⟩ : ∃ C, Hid (C = costR xs (bodyL xs) xs.length) := ⟨_, rfl⟩
   rw [<- HCo.out] at HP2
   have hx64 : xs.length <= 64 := by omega
   cases R with
   | some t =>
    have HB : Hid (P = (t : Int) /\ E = 31) := by have h := HP2.out; dsimp only at h; injection h with h1 h2; exact ⟨h1, h2⟩
    go_wp2_with (first
     | (go_at_call 28; go_must (refine (bodies_any _ xs _ HSr.out HPl.out hx64).mono ?_); rintro e w1 ⟨V, rfl, hBd⟩; go_must (have hL : Hid (SeesB w1 wr.heap.size xs.length V (bodyL xs)) := Bd.sees hx64 hBd; have hbe1 := hbe.trans (hBd.g.mono hsz); clear hBd))
     | (go_at_call 29; go_must (refine (rcross_any _ xs _ (HS.out.below hbe1) hx64 _ V (bodyL xs) hL.out HR2).mono ?_); rintro e w2 ⟨he, hb2⟩; go_must (simp only [optI, optN] at he; subst he hb2)))
    go_ret2
    exact ⟨r2i HB.out.1.symm HB.out.2.symm, hbe1⟩
   | none =>
    cases I with
    | some p =>
     have HB : Hid (P = (p : Int) /\ E = 31) := by have h := HP2.out; dsimp only at h; injection h with h1 h2; exact ⟨h1, h2⟩
     go_wp2_with (first
      | (go_at_call 28; go_must (refine (bodies_any _ xs _ HSr.out HPl.out hx64).mono ?_); rintro e w1 ⟨V, rfl, hBd⟩; go_must (have hL : Hid (SeesB w1 wr.heap.size xs.length V (bodyL xs)) := Bd.sees hx64 hBd; have hbe1 := hbe.trans (hBd.g.mono hsz); clear hBd))
      | (go_at_call 29; go_must (refine (rcross_any _ xs _ (HS.out.below hbe1) hx64 _ V (bodyL xs) hL.out HR2).mono ?_); rintro e w2 ⟨he, hb2⟩; go_must (simp only [optI, optN] at he; subst he hb2))
      | (go_at_call 30; go_must (refine (renter_any _ xs _ (HS.out.below hbe1) hx64 HPl.out _ V hL.out HI2).mono ?_); rintro e w3 ⟨he, hb3⟩; go_must (simp only [optI, optN] at he; subst he; have hbe3 := hbe1.trans (hb3.mono hbe1.size); have hL3 : Hid (SeesB w3 wr.heap.size xs.length V (bodyL xs)) := SeesB.below hL.out hb3; clear hb3)))
     go_ret2
     exact ⟨r2i HB.out.1.symm HB.out.2.symm, hbe3⟩
    | none =>
     by_cases hC : 256 < C
     ·have HB : Hid (P = 0 /\ E = 32) := by have h := HP2.out; dsimp only at h; rw [if_pos hC] at h; injection h with h1 h2; exact ⟨h1, h2⟩
      go_wp2_with (first
       | (go_at_call 28; go_must (refine (bodies_any _ xs _ HSr.out HPl.out hx64).mono ?_); rintro e w1 ⟨V, rfl, hBd⟩; go_must (have hL : Hid (SeesB w1 wr.heap.size xs.length V (bodyL xs)) := Bd.sees hx64 hBd; have hbe1 := hbe.trans (hBd.g.mono hsz); clear hBd))
       | (go_at_call 29; go_must (refine (rcross_any _ xs _ (HS.out.below hbe1) hx64 _ V (bodyL xs) hL.out HR2).mono ?_); rintro e w2 ⟨he, hb2⟩; go_must (simp only [optI, optN] at he; subst he hb2))
       | (go_at_call 30; go_must (refine (renter_any _ xs _ (HS.out.below hbe1) hx64 HPl.out _ V hL.out HI2).mono ?_); rintro e w3 ⟨he, hb3⟩; go_must (simp only [optI, optN] at he; subst he; have hbe3 := hbe1.trans (hb3.mono hbe1.size); have hL3 : Hid (SeesB w3 wr.heap.size xs.length V (bodyL xs)) := SeesB.below hL.out hb3; clear hb3))
       | (go_at_call 31; go_must (refine (rcost_any _ xs _ (HS.out.below hbe3) hx64 HPl.out _ V hL3.out HCo).mono ?_); rintro e w4 ⟨he, hb4⟩; go_must (subst he hb4)))
      go_ret2
      exact ⟨r2i HB.out.1.symm HB.out.2.symm, hbe3⟩
     ·have HB : Hid (P = 0 /\ E = 0) := by have h := HP2.out; dsimp only at h; rw [if_neg hC] at h; injection h with h1 h2; exact ⟨h1, h2⟩
      go_wp2_with (first
       | (go_at_call 28; go_must (refine (bodies_any _ xs _ HSr.out HPl.out hx64).mono ?_); rintro e w1 ⟨V, rfl, hBd⟩; go_must (have hL : Hid (SeesB w1 wr.heap.size xs.length V (bodyL xs)) := Bd.sees hx64 hBd; have hbe1 := hbe.trans (hBd.g.mono hsz); clear hBd))
       | (go_at_call 29; go_must (refine (rcross_any _ xs _ (HS.out.below hbe1) hx64 _ V (bodyL xs) hL.out HR2).mono ?_); rintro e w2 ⟨he, hb2⟩; go_must (simp only [optI, optN] at he; subst he hb2))
       | (go_at_call 30; go_must (refine (renter_any _ xs _ (HS.out.below hbe1) hx64 HPl.out _ V hL.out HI2).mono ?_); rintro e w3 ⟨he, hb3⟩; go_must (simp only [optI, optN] at he; subst he; have hbe3 := hbe1.trans (hb3.mono hbe1.size); have hL3 : Hid (SeesB w3 wr.heap.size xs.length V (bodyL xs)) := SeesB.below hL.out hb3; clear hb3))
       | (go_at_call 31; go_must (refine (rcost_any _ xs _ (HS.out.below hbe3) hx64 HPl.out _ V hL3.out HCo).mono ?_); rintro e w4 ⟨he, hb4⟩; go_must (subst he hb4)))
      go_ret2
      exact ⟨r2i HB.out.1.symm HB.out.2.symm, hbe3⟩
end Go.Proofs.YtkcofelpndlplaaGreat
