/-
  F7RBody
  F7RCross
-/
import Derived.Test.YtkcofelpndlplaaGreatMJ13
import Derived.Deep.OwnRows
namespace Go.Proofs.YtkcofelpndlplaaGreat
open Go.RowKit Go.Deep
set_option linter.unusedVariables false
set_option maxRecDepth 20000
theorem mem_take {l : List Int} {j : Nat} {n : Int} (h : j < l.length) : memB (l.take (j + 1)) n = (memB (l.take j) n || decide (l.getD j 0 = n)) := by
 rw [take_at l j h, Bool.eq_iff_iff, has_iff, Bool.or_eq_true, has_iff, List.mem_append, decide_eq_true_eq]
 simp [eq_comm]
theorem mem_yes {l : List Int} {j : Nat} {n : Int} (h : j < l.length) (e : l.getD j 0 = n) : memB l n = true := has_iff.2 (e ▸ getD_mem l j h)
theorem has_as {v : Value} {l : List Int} {n : Int} {w : World} (hs : Sees .i64 w v l) (hl : l.length <= 64) {r : Bool} (hr : Hid (r = memB l n)) : Calls Tryz.prog 64 #[v, .int .i64 n] w fun e w' => e = .returned (.bool r) /\ w = w' := by
 obtain ⟨a, cap, rfl, hc, hm, hn0, hw, hcell⟩ := hs
 have HC : Hid (l ≠ [] -> ∃ b off, a = some ⟨b, off, none⟩ /\ b < w.heap.size /\ ∀ i, i < l.length -> w.cell? ⟨b, off + i, none⟩ = some (.int .i64 (l.getD i 0))) := hcell
 clear hcell hn0 hw
 go_enter Tryz.func64, Tryz.ntmps64
 go_wp2
 go_loopw [5] (fun i wr => ∃ j : Nat, j <= l.length /\ i = .int .i64 j /\ Hid (memB (l.take j) n = false) /\ w = wr) (fun i _ => l.length - (intOf i).toNat)
 case atStart => exact ⟨0, by omega, rfl, rfl, rfl⟩
 case round =>
  obtain ⟨j, hj, rfl, HJ, rfl⟩ := hrel
  by_cases hjn : j < l.length
  ·obtain ⟨b, off, rfl, hb, hat⟩ := HC.out (fun h => by rw [h] at hjn; simp at hjn)
   have hcell := hat j hjn
   clear hat
   obtain ⟨x, HX⟩ : ∃ x, Hid (l.getD j 0 = x) := ⟨_, rfl⟩
   rw [HX.out] at hcell
   by_cases hx : x = n
   ·subst hx
    have HR : Hid (r = true) := by show _ = _; rw [hr.out]; exact mem_yes hjn HX.out
    go_wp2
    go_ret
    exact ⟨rbF HR.out.symm, rfl⟩
   ·have hxb : (x == n) = false := by simpa using hx
    go_wp2
    go_roundw
    case rel => exact ⟨j + 1, by omega, by go_num, ⟨by show _ = _; rw [mem_take hjn, HJ.out, HX.out, decide_eq_false hx]; rfl, trivial⟩⟩
    case measure => simp [intOf]; omega
  ·obtain rfl : j = l.length := by omega
   have HR : Hid (r = false) := by show _ = _; rw [hr.out]; have := HJ.out; rwa [List.take_length] at this
   go_wp2
   go_ret
   exact ⟨rbF HR.out.symm, rfl⟩
theorem grown_setc (w : World) (a : Addr) (u : Value) : w.grownBy (w.setCell a u) (some a.block) :=
 ⟨rfl, rfl, rfl, by rw [nblk_setCell]; exact Nat.le_refl _, fun k _ hk => blk_setCell_other _ _ _ _ (fun e => hk (by rw [e]))⟩
theorem below_setc {B : Nat} {w Z : World} {n j : Nat} {v : Value} (h : Below B w Z) (hn : B <= n) : Below B w (Z.setCell ⟨n, j, none⟩ v) :=
 ⟨h.os, h.tape, h.output, by rw [nblk_setCell]; exact h.size, fun k hk => (blk_setCell_other _ _ _ _ (by show k ≠ n; omega)).trans (h.block k hk)⟩
structure Bd (w : World) (N : Nat) (V : Nat -> Value) (R : Nat -> List Int) (wr : World) : Prop where
 g : Below w.heap.size w wr
 out : wr.rowIs w.heap.size 22 N V
 own : ∀ p, p < N -> wr.ownsRow (w.heap.size + 1) 3 1 (V p) (R p).length ((R p).map (Value.int .i64))
 two : ∀ p q, p < N -> q < N -> p ≠ q -> (V p).ownBlock = none ∨ (V p).ownBlock ≠ (V q).ownBlock
theorem Bd.congr {w wr : World} {N : Nat} {V : Nat -> Value} {R R' : Nat -> List Int} (h : Bd w N V R wr) (e : ∀ p, p < N -> R p = R' p) : Bd w N V R' wr :=
 ⟨h.g, h.out, fun p hp => by rw [<- e p hp]; exact h.own p hp, h.two⟩
theorem Bd.start (w : World) (N : Nat) : Bd w N (fun _ => .slice none 0 0) (fun _ => []) (w.alloc (.cells (madeCells #[.slice none 0 0] N) 22)) :=
 ⟨(Below.refl _ _).alloc (Nat.le_refl _) _, World.rowIs_made _ _ _ _, fun _ _ => World.ownsRow_nil _ _ _ _, fun _ _ _ _ _ => .inl rfl⟩
theorem Bd.row {w wr w1 : World} {N : Nat} {V : Nat -> Value} {R : Nat -> List Int} (h : Bd w N V R wr) {p : Nat} (hp : p < N) {o : Obj} (hgrow : (wr.alloc o).grownBy w1 (V p).ownBlock) : w1.rowIs w.heap.size 22 N V := by
 have hlt := h.out.lt
 refine h.out.of_block ?_
 rw [hgrow.block w.heap.size (by simp; omega) (fun e => by have := ((h.own p hp).lt _ e.symm).1; omega)]
 exact blk_alloc_lt _ _ _ hlt
theorem Bd.step {w wr w1 : World} {N : Nat} {V : Nat -> Value} {R : Nat -> List Int} (h : Bd w N V R wr) {p : Nat} (hp : p < N) {x : Int} {v' : Value} {o : Obj}
  (hown' : w1.ownsRow (w.heap.size + 1) 3 1 v' ((R p).length + 1) ((R p).map (Value.int .i64) ++ [.int .i64 x])) (hgrow : (wr.alloc o).grownBy w1 (V p).ownBlock) (hat : v'.ownBlock = (V p).ownBlock ∨ v'.ownBlock = some (wr.alloc o).heap.size) :
  Bd w N (fun j => if j = p then v' else V j) (fun j => if j = p then R p ++ [x] else R j) (w1.setCell ⟨w.heap.size, p, none⟩ v') := by
 have hs := h.g.size
 have hlt := h.out.lt
 have hl : ∀ q, q < N -> ∀ k, (V q).ownBlock = some k -> w.heap.size + 1 <= k /\ k < wr.heap.size := fun q hq k hk => (h.own q hq).lt k hk
 have hg1 : Below w.heap.size w w1 := (h.g.alloc (by omega) o).grown hgrow (by simp; omega) (fun k hk => by have := hl p hp k hk; omega)
 have hblk : w1.heap[w.heap.size]? = wr.heap[w.heap.size]? := by
  rw [hgrow.block w.heap.size (by simp; omega) (fun e => by have := hl p hp _ e.symm; omega)]
  exact blk_alloc_lt _ _ _ hlt
 have hkeep : ∀ {v : Value} {n : Nat} {xs : List Value}, w1.ownsRow (w.heap.size + 1) 3 1 v n xs -> (w1.setCell ⟨w.heap.size, p, none⟩ v').ownsRow (w.heap.size + 1) 3 1 v n xs := fun {v n xs} hv => by
  refine hv.kept (grown_setc w1 _ _) ?_
  cases hb : v.ownBlock with
  | none => exact .inl rfl
  | some k =>
   right
   intro e
   have e : k = w.heap.size := by injection e
   have := (hv.lt k hb).1
   omega
 have hq : ∀ q, q < N -> q ≠ p -> w1.ownsRow (w.heap.size + 1) 3 1 (V q) (R q).length ((R q).map (Value.int .i64)) := fun q hq hne => ((h.own q hq).alloc o).kept hgrow (h.two q p hq hp hne)
 refine ⟨below_setc hg1 (Nat.le_refl _), (h.out.of_block hblk).set p v', fun q hqN => ?_, fun a b ha hb hab => ?_⟩
 ·by_cases e : q = p
  ·subst e
   rw [if_pos rfl, if_pos rfl]
   refine hkeep ?_
   simpa using hown'
  ·rw [if_neg e, if_neg e]
   exact hkeep (hq q hqN e)
 ·by_cases e1 : a = p
  ·have e2 : b ≠ p := fun e2 => hab (e1.trans e2.symm)
   rw [if_pos e1, if_neg e2]
   subst e1
   rcases hat with h1 | h1
   ·rw [h1]; exact h.two a b ha hb hab
   ·right
    rw [h1]
    intro e
    have := hl b hb _ e.symm
    simp at this
    omega
  ·rw [if_neg e1]
   by_cases e2 : b = p
   ·rw [if_pos e2]
    subst e2
    rcases hat with h1 | h1
    ·rw [h1]; exact h.two a b ha hb hab
    ·rw [h1]
     cases hv : (V a).ownBlock with
     | none => exact .inl rfl
     | some k =>
      right
      intro e
      injection e with e
      have := hl a ha k hv
      simp at e
      omega
   ·rw [if_neg e2]; exact h.two a b ha hb hab
theorem Tryz.infoRow : (Tryz.prog.info? 22).map (fun i => (i.zero, i.size, i.bytes)) = some (some (.slice none 0 0), 1, 24) := by kernel_rfl
theorem around_loop {xs : List In} {k : Nat} (h20 : (nth xs k).op = 20) (q : Int) : aroundL (loopsU xs (k + 1)) q = if (lpAt xs k).h <= q /\ q <= k then aroundL (loopsU xs k) q ++ [(k : Int)] else aroundL (loopsU xs k) q := by
 rw [loopsU]
 unfold lps aroundL
 rw [if_pos h20, List.filter_append, List.map_append]
 by_cases h : (lpAt xs k).h <= q /\ q <= k
 ·rw [if_pos h, List.filter_cons_of_pos (by exact within_iff.2 h)]; rfl
 ·rw [if_neg h, List.filter_cons_of_neg (by rw [show inLpB (lpAt xs k) q = false from within_no.2 h]; simp), List.filter_nil, List.map_nil, List.append_nil]
theorem around_same {xs : List In} {k : Nat} (h20 : (nth xs k).op ≠ 20) (q : Int) : aroundL (loopsU xs (k + 1)) q = aroundL (loopsU xs k) q := by
 rw [loopsU]
 unfold lps
 rw [if_neg h20, List.append_nil]
theorem around_len (ls : List Lp) (q : Int) : (aroundL ls q).length <= ls.length := by
 unfold aroundL
 rw [List.length_map]
 exact List.length_filter_le _ _
set_option maxHeartbeats 1600000 in
theorem bodies_any (v : Value) (xs : List In) (w : World) (hs : SeesI w v xs) (hpl : Placed xs) (hn : xs.length <= 64) :
  Calls Tryz.prog 28 #[v] w fun e w' => ∃ V, e = .returned (.slice (some ⟨w.heap.size, 0, none⟩) xs.length xs.length) /\ Bd w xs.length V (fun p => aroundL (loopsL xs) p) w' := by
 obtain ⟨i0, hi, hz0, hz1, hz2⟩ := info_parts Tryz.infoInt7
 have HPl : Hid (Placed xs) := hpl
 obtain ⟨a, cap, rfl, hc, hm, hn0, hcell⟩ := hs
 have HC : Hid (xs ≠ [] -> ∃ b off, a = some ⟨b, off, none⟩ /\ b < w.heap.size /\ ∀ k, k < xs.length -> At w b (off + k * 5) (xs.getD k In.nil)) := hcell
 clear hcell hn0 hpl
 have hmk := run_make_row' (P := Tryz.prog) 76 22 (.slice none 0 0) 24 Tryz.underlying76 Tryz.infoRow rfl .i64 .i64 xs.length (by omega) (by omega)
 go_enter Tryz.func28, Tryz.ntmps28
 go_wp2
 clear hmk
 go_loopw [4] (fun i wr => ∃ (k : Nat) (V : Nat -> Value), k <= xs.length /\ i = .int .i64 k /\ Hid (Bd w xs.length V (fun p => aroundL (loopsU xs k) p) wr)) (fun i _ => xs.length - (intOf i).toNat)
 case atStart => exact ⟨0, fun _ => .slice none 0 0, by omega, rfl, Bd.start w xs.length⟩
 case round =>
  rename World => w0
  obtain ⟨k, V, hk, rfl, HB⟩ := hrel
  have hsz := HB.out.g.size
  by_cases hlt : k < xs.length
  ·obtain ⟨b, off, rfl, hb, hat⟩ := HC.out (fun h => by rw [h] at hlt; simp at hlt)
   obtain ⟨c0, c1, c2, c3, c4⟩ := (hat k hlt).below HB.out.g hb
   have hbr : b < w0.heap.size := by omega
   clear hat
   obtain ⟨⟨op, d, a, bb, imm⟩, HI⟩ : ∃ i, Hid (nth xs k = i) := ⟨_, rfl⟩
   have HI2 : xs.getD k In.nil = ⟨op, d, a, bb, imm⟩ := HI.out
   rw [HI2] at c0 c1 c2 c3 c4
   clear HI2
   simp only at c0 c1 c2 c3 c4
   by_cases h20 : op = 20
   ·subst h20
    have H20 : Hid ((nth xs k).op = 20) := by show _ = _; rw [HI.out]
    obtain ⟨k', _, _, HL, hh0, hh1, _⟩ := loop_ok HPl.out (l := lpAt xs k) (loopsU_mem.2 ⟨k, hlt, H20.out, rfl⟩)
    have hh : (lpAt xs k).h = k - d /\ 0 <= (k : Int) - d /\ (k : Int) - d < k := by
     have ek : k' = k := by have := congrArg Lp.t HL; simp [lpAt] at this; omega
     rw [ek, HI.out] at HL
     have e1 : (lpAt xs k).h = k - d := by rw [HL]
     have e2 : (lpAt xs k).t = k := rfl
     omega
    clear HL hh0 hh1
    have HH : Hid ((lpAt xs k).h = k - d) := hh.1
    obtain ⟨_, hd0, hd1⟩ := hh
    go_wp2
    go_loopw [5] (fun i wr => ∃ (p : Nat) (V : Nat -> Value), (k : Int) - d <= p /\ p <= k + 1 /\ i = .int .i64 p /\ Hid (Bd w xs.length V (fun q => if (k : Int) - d <= q /\ q < p then aroundL (loopsU xs k) q ++ [(k : Int)] else aroundL (loopsU xs k) q) wr)) (fun i _ => k + 1 - (intOf i).toNat)
    case atStart =>
     refine ⟨((k : Int) - d).toNat, V, by omega, by omega, by rw [show ((((k : Int) - d).toNat : Nat) : Int) = (k : Int) - d by omega], HB.out.congr fun p hp => ?_⟩
     rw [if_neg (by omega)]
    case round =>
     clear c0 c1 c2 c3 c4
     obtain ⟨p, V, hp0, hp1, rfl, HQ⟩ := hrel
     by_cases hpk : p <= k
     ·have hcv := HQ.out.out.cell (i := p) (by omega)
      have hfz := HQ.out.out.frozen p
      have hlt0 := HQ.out.out.lt
      obtain ⟨ys, HY⟩ : ∃ ys, Hid ((if (k : Int) - d <= p /\ p < p then aroundL (loopsU xs k) p ++ [(k : Int)] else aroundL (loopsU xs k) p) = ys) := ⟨_, rfl⟩
      have hown := HQ.out.own p (by omega)
      rw [HY.out] at hown
      have hyl : ys.length <= 64 := by
       have e := HY.out
       rw [if_neg (by omega)] at e
       rw [<- e]
       have := around_len (loopsU xs k) p
       have := loopsU_len xs k
       omega
      have hszq := HQ.out.g.size
      go_wp2_with (at_builtin; go_must (refine wpList_append_own_at _ rfl _ _ 22 rfl (w.heap.size + 1) 3 i0 (.int .i64 0) 1 8 Tryz.underlying22 hi hz0 hz1 hz2 rfl (by decide) _ _ _ rfl (hown.alloc _) ⟨_, 0, none⟩ 1 1 [.int .i64 k] rfl rfl (cell_one_new _ _ _) (one_cell _ _) (by unfold maxLen; omega) (by omega) (by simp; omega) ?_); intro v' w1 hown' hgrow _ hatb; have HS : Hid _ := HQ.out.step (p := p) (x := k) (by omega) (by simp only [HY.out]; exact hown') hgrow hatb; obtain ⟨g1, cap1, ev, _⟩ := own_open hown' (by omega); subst ev; have hr1 := HQ.out.row (by omega) hgrow; have hcv1 := hr1.cell (i := p) (by omega); have hfz1 := hr1.frozen p; have hlt1 := hr1.lt; clear hown' hgrow hatb hr1 hcv hfz)
      go_roundw
      case rel =>
       refine ⟨p + 1, _, by omega, by omega, by go_num, HS.out.congr fun q hq => ?_⟩
       by_cases e : q = p
       ·subst e
        rw [if_pos rfl, if_neg (by omega), if_pos (by omega)]
       ·rw [if_neg e]
        by_cases h1 : (k : Int) - d <= q /\ (q : Int) < p
        ·rw [if_pos (by omega), if_pos (by omega)]
        ·rw [if_neg (by omega), if_neg (by omega)]
      case measure => simp [intOf]; omega
     ·go_wp2
      go_roundw
      case rel =>
       refine ⟨k + 1, _, by omega, by go_num, HQ.out.congr fun q hq => ?_⟩
       rw [around_loop H20.out, HH.out]
       by_cases h1 : (k : Int) - d <= q /\ (q : Int) <= k
       ·rw [if_pos h1, if_pos (by omega)]
       ·rw [if_neg h1, if_neg (by omega)]
      case measure => simp [intOf]; omega
   ·have h20b : (op != 20) = true := by simpa using h20
    have H20 : Hid ((nth xs k).op ≠ 20) := by show _ ≠ _; rw [HI.out]; exact h20
    go_wp2
    go_roundw
    case rel => exact ⟨k + 1, V, by omega, by go_num, HB.out.congr fun q hq => (around_same H20.out q).symm⟩
    case measure => simp [intOf]; omega
  ·obtain rfl : k = xs.length := by omega
   go_wp2
   go_ret
   exact ⟨V, rfl, HB.out⟩
structure SeesB (w : World) (B N : Nat) (V : Nat -> Value) (rows : List (List Int)) : Prop where
 out : w.rowIs B 22 N V
 row : ∀ p, p < N -> Sees .i64 w (V p) (row rows p)
 len : ∀ p, p < N -> (Go.Proofs.YtkcofelpndlplaaGreat.row rows p).length <= 64
theorem SeesB.below {w w' : World} {B N : Nat} {V : Nat -> Value} {rows : List (List Int)} (h : SeesB w B N V rows) (hb : Below w.heap.size w w') : SeesB w' B N V rows :=
 ⟨h.out.of_block (hb.block B h.out.lt), fun p hp => (h.row p hp).below hb (Nat.le_refl _), h.len⟩
theorem wf_ats {xs : List In} {n : Nat} (hn : n <= 64) (q : Int) : ∀ x ∈ aroundL (loopsU xs n) q, (Lit.int .i64 x).wf = true := fun x hx => by
 obtain ⟨l, hl, _, rfl⟩ := around_mem.1 hx
 obtain ⟨k, hk, _, rfl⟩ := loopsU_mem.1 hl
 refine WalkArith.wf_i64 ?_
 simp only [lpAt]
 omega
theorem Bd.sees {w wr : World} {V : Nat -> Value} {xs : List In} (hn : xs.length <= 64) (h : Bd w xs.length V (fun p => aroundL (loopsL xs) p) wr) : SeesB wr w.heap.size xs.length V (bodyL xs) := by
 refine ⟨h.out, fun p hp => ?_, fun p hp => ?_⟩
 ·rw [bodyL, bodyU_row hp]
  exact Sees.own (h.own p hp) (wf_ats hn p)
 ·rw [bodyL, bodyU_row hp]
  have h1 := around_len (loopsU xs xs.length) p
  have h2 := loopsU_len xs xs.length
  omega
set_option maxHeartbeats 3200000 in
theorem rcross_any (v : Value) (xs : List In) (w : World) (hs : SeesI w v xs) (hn : xs.length <= 64) (B : Nat) (V : Nat -> Value) (rows : List (List Int)) (hb : SeesB w B xs.length V rows) {R : Option Int} (hR : Hid (R = optN (first (crossRB xs rows) xs.length))) :
  Calls Tryz.prog 29 #[v, .slice (some ⟨B, 0, none⟩) xs.length xs.length] w fun e w' => e = .returned (optI R) /\ w = w' := by
 have HB : Hid (SeesB w B xs.length V rows) := hb
 have hBlt := hb.out.lt
 obtain ⟨a, cap, rfl, hc, hm, hn0, hcell⟩ := hs
 have HC : Hid (xs ≠ [] -> ∃ b off, a = some ⟨b, off, none⟩ /\ b < w.heap.size /\ ∀ k, k < xs.length -> At w b (off + k * 5) (xs.getD k In.nil)) := hcell
 clear hcell hn0 hb
 go_enter Tryz.func29, Tryz.ntmps29
 go_wp2
 go_loopw [7] (fun i wr => ∃ l : Nat, l <= xs.length /\ i = .int .i64 l /\ Hid (∀ j, j < l -> crossRB xs rows j = false) /\ w = wr) (fun i _ => xs.length - (intOf i).toNat)
 case atStart => exact ⟨0, by omega, rfl, fun j hj => by omega, rfl⟩
 case round =>
  obtain ⟨l, hl, rfl, HL, rfl⟩ := hrel
  by_cases hlt : l < xs.length
  ·obtain ⟨b, off, rfl, hb, hat⟩ := HC.out (fun h => by rw [h] at hlt; simp at hlt)
   have HA : Hid (∀ k, k < xs.length -> At w b (off + k * 5) (xs.getD k In.nil)) := hat
   obtain ⟨c0, _, _, _, _⟩ := hat l hlt
   clear hat HC
   obtain ⟨op, HO⟩ : ∃ op, Hid ((nth xs l).op = op) := ⟨_, rfl⟩
   replace c0 : w.cell? ⟨b, off + l * 5, none⟩ = some (.int .i64 op) := by rw [<- HO.out]; exact c0
   by_cases h20 : op = 20
   ·subst h20
    have HX : Hid (crossRB xs rows l = (List.range l).any (pairB xs rows l)) := by show _ = _; unfold crossRB; rw [HO.out]; rfl
    go_wp2
    go_loopw [8] (fun i wr => ∃ m : Nat, m <= l /\ i = .int .i64 m /\ Hid (∀ j, j < m -> pairB xs rows l j = false) /\ w = wr) (fun i _ => l - (intOf i).toNat)
    case atStart => exact ⟨0, by omega, rfl, fun j hj => by omega, rfl⟩
    case round =>
     obtain ⟨m, hml, rfl, HM, rfl⟩ := hrel
     by_cases hmlt : m < l
     ·obtain ⟨d0, _, _, _, _⟩ := HA.out m (by omega)
      obtain ⟨om, HOm⟩ : ∃ om, Hid ((nth xs m).op = om) := ⟨_, rfl⟩
      replace d0 : w.cell? ⟨b, off + m * 5, none⟩ = some (.int .i64 om) := by rw [<- HOm.out]; exact d0
      by_cases hm20 : om = 20
      ·subst hm20
       have HP : Hid (pairB xs rows l m = (decide (0 < cntU rows m l xs.length) && !allU rows m l xs.length)) := by show _ = _; unfold pairB; rw [HOm.out]; rfl
       go_wp2
       go_loopw [11, 9, 10] (fun i bo al wr => ∃ (p : Nat) (C : Int) (A : Bool), p <= xs.length /\ i = .int .i64 p /\ bo = .int .i64 C /\ al = .bool A /\ Hid (C = cntU rows m l p /\ A = allU rows m l p) /\ 0 <= C /\ C <= p /\ w = wr) (fun i _ _ _ => xs.length - (intOf i).toNat)
       case atStart => exact ⟨0, 0, true, by omega, rfl, rfl, rfl, ⟨rfl, rfl⟩, by omega, by omega, rfl⟩
       case round =>
        obtain ⟨p, C, A, hp, rfl, rfl, rfl, HCA, hC0, hC1, rfl⟩ := hrel
        by_cases hplt : p < xs.length
        ·have hcv := HB.out.out.cell (i := p) hplt
         obtain ⟨ys, HYs⟩ : ∃ ys, Hid (row rows p = ys) := ⟨_, rfl⟩
         have HSp : Hid (Sees .i64 w (V p) ys) := by rw [<- HYs.out]; exact HB.out.row p hplt
         have HLp : Hid (ys.length <= 64) := by rw [<- HYs.out]; exact HB.out.len p hplt
         obtain ⟨r1, H1⟩ : ∃ r, Hid (r = memB ys m) := ⟨_, rfl⟩
         obtain ⟨r2, H2⟩ : ∃ r, Hid (r = memB ys l) := ⟨_, rfl⟩
         have HN : Hid (cntU rows m l (p + 1) = C + (if r1 && r2 then 1 else 0) /\ allU rows m l (p + 1) = (A && !(r1 && !r2))) := by
          show _ /\ _
          rw [cntU, allU, HCA.out.1, HCA.out.2, HYs.out, H1.out, H2.out]
          exact ⟨rfl, rfl⟩
         cases r1
         ·go_wp2_with (go_at_call 64; go_must (refine (has_as HSp.out HLp.out H1).mono ?_); rintro e w1 ⟨rfl, rfl⟩)
          go_roundw
          case rel => exact ⟨p + 1, C, A, by omega, by go_num, rfl, rfl, ⟨by rw [HN.out.1]; simp, by rw [HN.out.2]; simp⟩, by omega, by omega, by trivial⟩
          case measure => simp [intOf]; omega
         ·cases r2
          ·go_wp2_with (first
            | (go_at_call 64; (have hq := H1; clear hq); go_must (refine (has_as HSp.out HLp.out H1).mono ?_); rintro e w1 ⟨rfl, rfl⟩; go_must (clear H1))
            | (go_at_call 64; (have hq := H2; clear hq); go_must (refine (has_as HSp.out HLp.out H2).mono ?_); rintro e w1 ⟨rfl, rfl⟩; go_must (clear H2)))
           go_roundw
           case rel => exact ⟨p + 1, C, false, by omega, by go_num, rfl, rfl, ⟨by rw [HN.out.1]; simp, by rw [HN.out.2]; simp⟩, by omega, by omega, by trivial⟩
           case measure => simp [intOf]; omega
          ·go_wp2_with (first
            | (go_at_call 64; (have hq := H1; clear hq); go_must (refine (has_as HSp.out HLp.out H1).mono ?_); rintro e w1 ⟨rfl, rfl⟩; go_must (clear H1))
            | (go_at_call 64; (have hq := H2; clear hq); go_must (refine (has_as HSp.out HLp.out H2).mono ?_); rintro e w1 ⟨rfl, rfl⟩; go_must (clear H2)))
           go_roundw
           case rel => exact ⟨p + 1, C + 1, A, by omega, by go_num, by go_num, rfl, ⟨by rw [HN.out.1]; simp, by rw [HN.out.2]; simp⟩, by omega, by omega, by trivial⟩
           case measure => simp [intOf]; omega
        ·obtain rfl : p = xs.length := by omega
         have HP2 : Hid (pairB xs rows l m = (decide (0 < C) && !A)) := by show _ = _; rw [HP.out, HCA.out.1, HCA.out.2]
         by_cases hC : 0 < C
         ·cases A
          ·have HF : Hid (R = some (l : Int)) := by
            show _ = _
            rw [hR.out, first_some HL.out hlt, optN]
            rw [HX.out, List.any_eq_true]
            exact ⟨m, List.mem_range.2 hmlt, by rw [HP2.out, decide_eq_true hC]; rfl⟩
           go_wp2
           go_ret2
           exact ⟨by rw [HF.out]; rfl, by trivial⟩
          ·go_wp2
           go_roundw
           case rel => exact ⟨m + 1, by omega, by go_num, fun j hj => by
            by_cases e : j = m
            ·rw [e, HP2.out]; simp
            ·exact HM.out j (by omega), by trivial⟩
           case measure => simp [intOf]; omega
         ·go_wp2
          go_roundw
          case rel => exact ⟨m + 1, by omega, by go_num, fun j hj => by
           by_cases e : j = m
           ·rw [e, HP2.out, decide_eq_false hC]; rfl
           ·exact HM.out j (by omega), by trivial⟩
          case measure => simp [intOf]; omega
      ·have hmb : (om != 20) = true := by simpa using hm20
       have HP : Hid (pairB xs rows l m = false) := by show _ = _; unfold pairB; rw [HOm.out, decide_eq_false hm20]; rfl
       go_wp2
       go_roundw
       case rel => exact ⟨m + 1, by omega, by go_num, fun j hj => by
        by_cases e : j = m
        ·rw [e, HP.out]
        ·exact HM.out j (by omega), by trivial⟩
       case measure => simp [intOf]; omega
     ·obtain rfl : m = l := by omega
      go_wp2
      go_roundw
      case rel => exact ⟨m + 1, by omega, by go_num, fun j hj => by
       by_cases e : j = m
       ·rw [e, HX.out, List.any_eq_false]
        intro x hx
        rw [HM.out x (List.mem_range.1 hx)]
        simp
       ·exact HL.out j (by omega), by trivial⟩
      case measure => simp [intOf]; omega
   ·have hlb : (op != 20) = true := by simpa using h20
    have HP : Hid (crossRB xs rows l = false) := by show _ = _; unfold crossRB; rw [HO.out, decide_eq_false h20]; rfl
    go_wp2
    go_roundw
    case rel => exact ⟨l + 1, by omega, by go_num, fun j hj => by
     by_cases e : j = l
     ·rw [e, HP.out]
     ·exact HL.out j (by omega), by trivial⟩
    case measure => simp [intOf]; omega
  ·obtain rfl : l = xs.length := by omega
   have HF : Hid (R = none) := by show _ = _; rw [hR.out, first_none HL.out]; rfl
   go_wp2
   go_ret2
   exact ⟨by rw [HF.out]; rfl, rfl⟩
end Go.Proofs.YtkcofelpndlplaaGreat
