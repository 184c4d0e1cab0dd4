/-
  KW4Reader
  KW4Number
-/
import Derived.Test.YtlkdniglaldilaaGreatMG22
import Derived.Test.YtlkdniglaldilaaGreatMG23
import Derived.Laws.OwnMore
import Derived.Deep.QuietTactic
import Derived.BigQuiet
namespace Go.Proofs.YtlkdniglaldilaaGreat
open Go.RowKit
set_option linter.unusedVariables false
set_option maxRecDepth 100000
def RdC (w : World) (br : Nat) (v : Value) (p q e : Int) : Prop := w.heap[br]? = some (.cells #[v, .int .i64 p, .int .i64 q, .int .i64 e] 110 (0, 0))
abbrev rdP (br : Nat) : Value := .pointer (some ⟨br, 0, none⟩)
theorem RdC.cells {w : World} {br : Nat} {v : Value} {p q e : Int} (h : RdC w br v p q e) :
  w.cell? ⟨br, 0, none⟩ = some v /\ w.cell? ⟨br, 1, none⟩ = some (.int .i64 p) /\ w.cell? ⟨br, 2, none⟩ = some (.int .i64 q) /\ w.cell? ⟨br, 3, none⟩ = some (.int .i64 e) :=
 ⟨cell_of_row w br 0 _ _ _ h, cell_of_row w br 1 _ _ _ h, cell_of_row w br 2 _ _ _ h, cell_of_row w br 3 _ _ _ h⟩
theorem RdC.frozen {w : World} {br : Nat} {v : Value} {p q e : Int} (h : RdC w br v p q e) (j : Nat) : w.frozen? ⟨br, j, none⟩ = false := frozen_of_row w br j _ _ h
theorem RdC.lt {w : World} {br : Nat} {v : Value} {p q e : Int} (h : RdC w br v p q e) : br < w.heap.size := (Array.getElem?_eq_some_iff.1 h).1
theorem RdC.set1 {w : World} {br : Nat} {v : Value} {p q e : Int} (h : RdC w br v p q e) (z : Int) : RdC (w.setCell ⟨br, 1, none⟩ (.int .i64 z)) br v z q e := heap_setCell_same w br 1 _ _ _ h
theorem RdC.set2 {w : World} {br : Nat} {v : Value} {p q e : Int} (h : RdC w br v p q e) (z : Int) : RdC (w.setCell ⟨br, 2, none⟩ (.int .i64 z)) br v p z e := heap_setCell_same w br 2 _ _ _ h
theorem RdC.set3 {w : World} {br : Nat} {v : Value} {p q e : Int} (h : RdC w br v p q e) (z : Int) : RdC (w.setCell ⟨br, 3, none⟩ (.int .i64 z)) br v p q z := heap_setCell_same w br 3 _ _ _ h
theorem RdC.kept {w w' : World} {br : Nat} {v : Value} {p q e : Int} {row : Option Nat} (h : RdC w br v p q e) (hg : w.grownBy w' row) (hr : row ≠ some br) : RdC w' br v p q e := by
 unfold RdC
 rw [hg.block br h.lt (fun e => hr e.symm)]; exact h
theorem grown_set_w (w : World) (a : Addr) (u : Value) : w.grownBy (w.setCell a u) (some a.block) :=
 ⟨rfl, rfl, rfl, by simp, fun k _ hk => heap_setCell_other w a k u (fun e => hk (by rw [e]))⟩
theorem grown_drewN (w : World) (n : Nat) (r : Option Nat) : w.grownBy (w.drewN n) r := ⟨rfl, rfl, rfl, Nat.le_refl _, fun _ _ _ => rfl⟩
theorem grown_below_w {w w' : World} (h : Below w.heap.size w w') (r : Option Nat) : w.grownBy w' r := ⟨h.os, h.tape, h.output, h.size, fun i hi _ => h.block i hi⟩
theorem grown_alloc (w : World) (o : Obj) (r : Option Nat) : w.grownBy (w.alloc o) r := grown_below_w ((Below.refl _ _).alloc (Nat.le_refl _) o) r

def RdAt (w : World) (br : Nat) (v : Value) (L : Nat) (s : St_w) : Prop := match s with
 | .ok p => p <= L /\ RdC w br v p 0 0
 | .error (q, e) => e ≠ 0 /\ ∃ z, RdC w br v z q e
theorem RdAt.kept {w w' : World} {br : Nat} {v : Value} {L : Nat} {s : St_w} {row : Option Nat} (h : RdAt w br v L s) (hg : w.grownBy w' row) (hr : row ≠ some br) : RdAt w' br v L s := by
 cases s with
 | ok p => exact ⟨h.1, h.2.kept hg hr⟩
 | error x => exact ⟨h.1, by obtain ⟨z, hz⟩ := h.2; exact ⟨z, hz.kept hg hr⟩⟩
theorem RdAt.lt {w : World} {br : Nat} {v : Value} {L : Nat} {s : St_w} (h : RdAt w br v L s) : br < w.heap.size := by
 cases s with
 | ok p => exact h.2.lt
 | error x => obtain ⟨z, hz⟩ := h.2; exact hz.lt
theorem RdAt.open {w : World} {br : Nat} {v : Value} {L : Nat} {s : St_w} (h : RdAt w br v L s) : ∃ p q e, RdC w br v p q e := by
 cases s with
 | ok p => exact ⟨_, _, _, h.2⟩
 | error x => obtain ⟨z, hz⟩ := h.2; exact ⟨_, _, _, hz⟩
def failS (s : St_w) (q e : Int) : St_w := match s with | .ok _ => .error (q, e) | .error x => .error x

theorem fail_ok (br : Nat) (v : Value) (p q e : Int) (w : World) (h : RdC w br v p 0 0) :
  Calls Tryz.prog 75 #[rdP br, .int .i64 q, .int .i64 e] w fun x w' => x = .returned (.tuple #[]) /\ RdC w' br v p q e /\ w.grownBy w' (some br) := by
 have H : Hid (RdC ((w.setCell ⟨br, 2, none⟩ (.int .i64 q)).setCell ⟨br, 3, none⟩ (.int .i64 e)) br v p q e) := (h.set2 q).set3 e
 have HG : Hid (w.grownBy ((w.setCell ⟨br, 2, none⟩ (.int .i64 q)).setCell ⟨br, 3, none⟩ (.int .i64 e)) (some br)) := (grown_set_w w ⟨br, 2, none⟩ _).trans (grown_set_w _ ⟨br, 3, none⟩ _)
 obtain ⟨c0, c1, c2, c3⟩ := h.cells
 have f2 := h.frozen 2
 have f3 := h.frozen 3
 clear h
 go_enter Tryz.func75, Tryz.ntmps75
 go_wp2
 go_returns
 exact ⟨rfl, H.out, HG.out⟩
theorem fail_bad (br : Nat) (v : Value) (p q e q' e' : Int) (w : World) (h : RdC w br v p q e) (he : e ≠ 0) :
  Calls Tryz.prog 75 #[rdP br, .int .i64 q', .int .i64 e'] w fun x w' => x = .returned (.tuple #[]) /\ w = w' := by
 obtain ⟨c0, c1, c2, c3⟩ := h.cells
 have hb : (e == 0) = false := by simpa using he
 clear h he
 go_enter Tryz.func75, Tryz.ntmps75
 go_wp2
 go_returns
 exact ⟨rfl, rfl⟩
theorem fail_any (br : Nat) (v : Value) (L : Nat) (s : St_w) (q e : Int) (w : World) (h : RdAt w br v L s) (he : e ≠ 0) :
  Calls Tryz.prog 75 #[rdP br, .int .i64 q, .int .i64 e] w fun x w' => x = .returned (.tuple #[]) /\ RdAt w' br v L (failS s q e) /\ w.grownBy w' (some br) := by
 cases s with
 | ok p => exact (fail_ok br v p q e w h.2).mono fun x w' ⟨h1, h2, h3⟩ => ⟨h1, ⟨he, _, h2⟩, h3⟩
 | error x =>
  obtain ⟨z, hz⟩ := h.2
  exact (fail_bad br v z x.1 x.2 q e w hz h.1).mono fun x w' ⟨h1, h2⟩ => ⟨h1, by subst h2; exact h, by subst h2; exact grown_refl _ _⟩

theorem get_at {xs : List Int} (hb : ∀ x ∈ xs, 0 <= x /\ x <= 255) (p : Nat) (hp : p <= xs.length) :
  (∃ e : Int, (e = 10 ∨ e = 12) /\ getL 0 0 (xs.drop p) = (0, 0, e)) ∨ ∃ (n : Int) (j : Nat), getL 0 0 (xs.drop p) = (n, (j : Int), 0) /\ 0 <= n /\ n < 18446744073709551616 /\ 1 <= j /\ p + j <= xs.length := by
 rcases getL_tells (xs.drop p) 0 0 (by omega) (by omega) (by simp) (drop_byte hb p) with (h | h) | ⟨n, j, h, h1, h2, h3, h4, h5⟩
 ·exact .inl ⟨10, .inl rfl, h⟩
 ·exact .inl ⟨12, .inr rfl, h⟩
 ·rw [List.length_drop] at h4
  exact .inr ⟨n, j, h, h1, h2, by omega, by omega⟩
theorem numR_err {xs : List Int} {most above : Int} {p : Nat} {e : Int} (h : getL 0 0 (xs.drop p) = (0, 0, e)) (he : e ≠ 0) : numR xs most above p = .error ((p : Int), e) := by
 unfold numR; rw [h, if_pos he]
theorem numR_above {xs : List Int} {most above : Int} {p : Nat} {n : Int} {j : Nat} (h : getL 0 0 (xs.drop p) = (n, (j : Int), 0)) (hn : most < n) : numR xs most above p = .error ((p : Int), above) := by
 unfold numR; rw [h, if_neg (by simp), if_pos hn]
theorem numR_ok {xs : List Int} {most above : Int} {p : Nat} {n : Int} {j : Nat} (h : getL 0 0 (xs.drop p) = (n, (j : Int), 0)) (hn : n <= most) : numR xs most above p = .ok (n, p + j) := by
 unfold numR; rw [h, if_neg (by simp), if_neg (by omega)]; simp
theorem sgnR_err {xs : List Int} {p : Nat} {e : Int} (h : getL 0 0 (xs.drop p) = (0, 0, e)) (he : e ≠ 0) : sgnR xs p = .error ((p : Int), e) := by
 unfold sgnR; rw [h, if_pos he]
theorem sgnR_ok {xs : List Int} {p : Nat} {n : Int} {j : Nat} (h : getL 0 0 (xs.drop p) = (n, (j : Int), 0)) : sgnR xs p = .ok (unfoldI n, p + j) := by
 unfold sgnR; rw [h, if_neg (by simp)]; simp
theorem Sees.from' {w : World} {a : Option Addr} {cap : Nat} {xs : List Int} (h : Sees .u8 w (.slice a xs.length cap) xs) (p : Nat) (hp : p <= xs.length) (hc : xs.length <= cap) : Sees .u8 w (cutV a p xs.length cap) (xs.drop p) := by
 have := h.cut p xs.length cap hp (Nat.le_refl _) hc (Nat.le_refl _)
 rwa [List.take_length] at this

set_option maxHeartbeats 800000 in
theorem number_bad (br : Nat) (v : Value) (z q e most above : Int) (w : World) (h : RdC w br v z q e) (he : e ≠ 0) :
  Calls Tryz.prog 76 #[rdP br, .int .i64 most, .int .i64 above] w fun x w' => x = .returned (.int .i64 0) /\ w = w' := by
 obtain ⟨c0, c1, c2, c3⟩ := h.cells
 have hb : (e != 0) = true := by simpa using he
 clear h he
 go_enter Tryz.func76, Tryz.ntmps76
 go_wp2
 go_ret
 exact ⟨rfl, rfl⟩
set_option maxHeartbeats 1600000 in
theorem number_err (br : Nat) (a : Option Addr) (cap : Nat) (xs : List Int) (p : Nat) (most above : Int) (w : World) (h : RdC w br (.slice a xs.length cap) p 0 0) (hsee : Sees .u8 w (.slice a xs.length cap) xs) (hp : p <= xs.length) (hc : xs.length <= cap) (hm : cap <= 9223372036854775807)
  (e : Int) (he : e = 10 ∨ e = 12) (hg : getL 0 0 (xs.drop p) = (0, 0, e)) :
  Calls Tryz.prog 76 #[rdP br, .int .i64 most, .int .i64 above] w fun x w' => x = .returned (.int .i64 0) /\ RdC w' br (.slice a xs.length cap) p p e /\ w.grownBy w' (some br) := by
 obtain ⟨c0, c1, c2, c3⟩ := h.cells
 obtain ⟨cv, hs, hsee'⟩ : ∃ cv, (∀ w, (Instr.slice 29 (.slice a xs.length cap) (some (.int .i64 p)) none none).run Tryz.prog w = .ok cv w) /\ Sees .u8 w cv (xs.drop p) := ⟨_, fun w => run_from Tryz.underlying29 size_u8 a xs.length cap p hp w, hsee.from' p hp hc⟩
 have HG : Hid (∀ n, Calls Tryz.prog 91 #[cv] (w.drewN n) fun x w' => x = .returned (.tuple #[.int .u64 0, .int .i64 0, .int .i64 e]) /\ w.drewN n = w') := fun n => get_eq (w := w.drewN n) hsee' hg
 have HF : Hid (∀ n, Calls Tryz.prog 75 #[rdP br, .int .i64 p, .int .i64 e] (w.drewN n) fun x w' => x = .returned (.tuple #[]) /\ RdC w' br (.slice a xs.length cap) p p e /\ (w.drewN n).grownBy w' (some br)) := fun n => fail_ok br _ p p e (w.drewN n) h
 have h0 : (e == 0) = false := by simp; omega
 have h1 : (e != 0) = true := by simp; omega
 clear h hg hsee he hsee'
 go_enter Tryz.func76, Tryz.ntmps76
 go_wp2_with fail
 go_quiet (first | (go_at_call 91; refine (HG.out _).mono ?_; rintro e w' ⟨rfl, rfl⟩; exact ⟨rfl, _, rfl⟩))
 go_wp2_with (go_at_call 75; go_must (refine (HF.out _).mono ?_); rintro e w' ⟨rfl, hr, hgr⟩)
 go_ret
 exact ⟨rfl, hr, (grown_drewN _ _ _).trans hgr⟩
set_option maxHeartbeats 1600000 in
theorem number_above (br : Nat) (a : Option Addr) (cap : Nat) (xs : List Int) (p : Nat) (most above : Int) (w : World) (h : RdC w br (.slice a xs.length cap) p 0 0) (hsee : Sees .u8 w (.slice a xs.length cap) xs) (hp : p <= xs.length) (hc : xs.length <= cap) (hm : cap <= 9223372036854775807)
  (n : Int) (j : Nat) (hg : getL 0 0 (xs.drop p) = (n, (j : Int), 0)) (hn0 : 0 <= n) (hn1 : n < 18446744073709551616) (hmost0 : 0 <= most) (hmost1 : most <= 4096) (hn : most < n) (hab : above = 11 ∨ above = 12) :
  Calls Tryz.prog 76 #[rdP br, .int .i64 most, .int .i64 above] w fun x w' => x = .returned (.int .i64 0) /\ RdC w' br (.slice a xs.length cap) p p above /\ w.grownBy w' (some br) := by
 obtain ⟨c0, c1, c2, c3⟩ := h.cells
 have f1 := h.frozen 1
 obtain ⟨cv, hs, hsee'⟩ : ∃ cv, (∀ w, (Instr.slice 29 (.slice a xs.length cap) (some (.int .i64 p)) none none).run Tryz.prog w = .ok cv w) /\ Sees .u8 w cv (xs.drop p) := ⟨_, fun w => run_from Tryz.underlying29 size_u8 a xs.length cap p hp w, hsee.from' p hp hc⟩
 have HG : Hid (∀ m, Calls Tryz.prog 91 #[cv] (w.drewN m) fun x w' => x = .returned (.tuple #[.int .u64 n, .int .i64 j, .int .i64 0]) /\ w.drewN m = w') := fun m => get_eq (w := w.drewN m) hsee' hg
 have HF : Hid (∀ m, Calls Tryz.prog 75 #[rdP br, .int .i64 p, .int .i64 above] (w.drewN m) fun x w' => x = .returned (.tuple #[]) /\ RdC w' br (.slice a xs.length cap) p p above /\ (w.drewN m).grownBy w' (some br)) := fun m => fail_ok br _ p p above (w.drewN m) h
 have h1 : (above != 0) = true := by simp; omega
 clear h hg hsee hab hsee'
 go_enter Tryz.func76, Tryz.ntmps76
 go_wp2_with fail
 go_quiet (first | (go_at_call 91; refine (HG.out _).mono ?_; rintro e w' ⟨rfl, rfl⟩; exact ⟨rfl, _, rfl⟩))
 go_wp2_with (go_at_call 75; go_must (refine (HF.out _).mono ?_); rintro e w' ⟨rfl, hr, hgr⟩)
 go_ret
 exact ⟨rfl, hr, (grown_drewN _ _ _).trans hgr⟩
set_option maxHeartbeats 1600000 in
theorem number_ok (br : Nat) (a : Option Addr) (cap : Nat) (xs : List Int) (p : Nat) (most above : Int) (w : World) (h : RdC w br (.slice a xs.length cap) p 0 0) (hsee : Sees .u8 w (.slice a xs.length cap) xs) (hp : p <= xs.length) (hc : xs.length <= cap) (hm : cap <= 9223372036854775807)
  (n : Int) (j : Nat) (hg : getL 0 0 (xs.drop p) = (n, (j : Int), 0)) (hn0 : 0 <= n) (hpj : p + j <= xs.length) (hmost1 : most <= 4096) (hn : n <= most) :
  Calls Tryz.prog 76 #[rdP br, .int .i64 most, .int .i64 above] w fun x w' => x = .returned (.int .i64 n) /\ RdC w' br (.slice a xs.length cap) ((p + j : Nat) : Int) 0 0 /\ w.grownBy w' (some br) := by
 obtain ⟨c0, c1, c2, c3⟩ := h.cells
 have f1 := h.frozen 1
 obtain ⟨cv, hs, hsee'⟩ : ∃ cv, (∀ w, (Instr.slice 29 (.slice a xs.length cap) (some (.int .i64 p)) none none).run Tryz.prog w = .ok cv w) /\ Sees .u8 w cv (xs.drop p) := ⟨_, fun w => run_from Tryz.underlying29 size_u8 a xs.length cap p hp w, hsee.from' p hp hc⟩
 have HG : Hid (∀ m, Calls Tryz.prog 91 #[cv] (w.drewN m) fun x w' => x = .returned (.tuple #[.int .u64 n, .int .i64 j, .int .i64 0]) /\ w.drewN m = w') := fun m => get_eq (w := w.drewN m) hsee' hg
 have HR : Hid (∀ m, RdC ((w.drewN m).setCell ⟨br, 1, none⟩ (.int .i64 ((p : Int) + (j : Int)))) br (.slice a xs.length cap) ((p + j : Nat) : Int) 0 0) := fun m => by
  have := RdC.set1 (w := w.drewN m) h ((p + j : Nat) : Int)
  rwa [Int.natCast_add] at this ⊢
 clear h hg hsee hsee'
 go_enter Tryz.func76, Tryz.ntmps76
 go_wp2_with fail
 go_quiet (first | (go_at_call 91; refine (HG.out _).mono ?_; rintro e w' ⟨rfl, rfl⟩; exact ⟨rfl, _, rfl⟩))
 go_wp2_with fail
 go_ret
 exact ⟨rfl, HR.out _, (grown_drewN _ _ _).trans (grown_set_w _ ⟨br, 1, none⟩ _)⟩
theorem number_any_w (br : Nat) (a : Option Addr) (cap : Nat) (xs : List Int) (s : St_w) (most above : Int) (w : World) (h : RdAt w br (.slice a xs.length cap) xs.length s) (hsee : Sees .u8 w (.slice a xs.length cap) xs) (hmost0 : 0 <= most) (hmost1 : most <= 4096) (hab : above = 11 ∨ above = 12) :
  Calls Tryz.prog 76 #[rdP br, .int .i64 most, .int .i64 above] w fun x w' => ∃ s' n, x = .returned (.int .i64 n) /\ 0 <= n /\ n <= most /\ RdAt w' br (.slice a xs.length cap) xs.length s' /\ After s (numR xs most above) s' n /\ w.grownBy w' (some br) := by
 have hb := hsee.bytes
 have hcap : xs.length <= cap /\ cap <= 9223372036854775807 := by
  obtain ⟨a', cap', hv, h1, h2, _⟩ := hsee
  injection hv with _ _ e
  subst e
  exact ⟨h1, h2⟩
 cases s with
 | error x =>
  obtain ⟨z, hz⟩ := h.2
  exact (number_bad br _ z x.1 x.2 most above w hz h.1).mono fun y w' ⟨h1, h2⟩ => ⟨.error x, 0, h1, by omega, hmost0, by subst h2; exact h, rfl, by subst h2; exact grown_refl _ _⟩
 | ok p =>
  rcases get_at hb p h.1 with ⟨e, he, hg⟩ | ⟨n, j, hg, hn0, hn1, hj, hpj⟩
  ·exact (number_err br a cap xs p most above w h.2 hsee h.1 hcap.1 hcap.2 e he hg).mono fun y w' ⟨h1, h2, h3⟩ => ⟨.error ((p : Int), e), 0, h1, by omega, hmost0, ⟨by omega, _, h2⟩, numR_err hg (by omega), h3⟩
  ·by_cases hn : n <= most
   ·exact (number_ok br a cap xs p most above w h.2 hsee h.1 hcap.1 hcap.2 n j hg hn0 hpj hmost1 hn).mono fun y w' ⟨h1, h2, h3⟩ => ⟨.ok (p + j), n, h1, hn0, hn, ⟨hpj, h2⟩, numR_ok hg hn, h3⟩
   ·exact (number_above br a cap xs p most above w h.2 hsee h.1 hcap.1 hcap.2 n j hg hn0 hn1 hmost0 hmost1 (by omega) hab).mono fun y w' ⟨h1, h2, h3⟩ => ⟨.error ((p : Int), above), 0, h1, by omega, hmost0, ⟨by omega, _, h2⟩, numR_above hg (by omega), h3⟩

set_option maxHeartbeats 800000 in
theorem signed_bad (br : Nat) (v : Value) (z q e : Int) (w : World) (h : RdC w br v z q e) (he : e ≠ 0) :
  Calls Tryz.prog 92 #[rdP br] w fun x w' => x = .returned (.int .i64 0) /\ w = w' := by
 obtain ⟨c0, c1, c2, c3⟩ := h.cells
 have hb : (e != 0) = true := by simpa using he
 clear h he
 go_enter Tryz.func92, Tryz.ntmps92
 go_wp2
 go_ret
 exact ⟨rfl, rfl⟩
set_option maxHeartbeats 1600000 in
theorem signed_err (br : Nat) (a : Option Addr) (cap : Nat) (xs : List Int) (p : Nat) (w : World) (h : RdC w br (.slice a xs.length cap) p 0 0) (hsee : Sees .u8 w (.slice a xs.length cap) xs) (hp : p <= xs.length) (hc : xs.length <= cap) (hm : cap <= 9223372036854775807)
  (e : Int) (he : e = 10 ∨ e = 12) (hg : getL 0 0 (xs.drop p) = (0, 0, e)) :
  Calls Tryz.prog 92 #[rdP br] w fun x w' => x = .returned (.int .i64 0) /\ RdC w' br (.slice a xs.length cap) p p e /\ w.grownBy w' (some br) := by
 obtain ⟨c0, c1, c2, c3⟩ := h.cells
 have f1 := h.frozen 1
 obtain ⟨cv, hs, hsee'⟩ : ∃ cv, (∀ w, (Instr.slice 29 (.slice a xs.length cap) (some (.int .i64 p)) none none).run Tryz.prog w = .ok cv w) /\ Sees .u8 w cv (xs.drop p) := ⟨_, fun w => run_from Tryz.underlying29 size_u8 a xs.length cap p hp w, hsee.from' p hp hc⟩
 have HG : Hid (∀ m, Calls Tryz.prog 113 #[cv] (w.drewN m) fun x w' => x = .returned (.tuple #[.int .i64 (unfoldI 0), .int .i64 0, .int .i64 e]) /\ w.drewN m = w') := fun m => getint_eq (w := w.drewN m) hsee' hg
 have HF : Hid (∀ m, Calls Tryz.prog 75 #[rdP br, .int .i64 p, .int .i64 e] (w.drewN m) fun x w' => x = .returned (.tuple #[]) /\ RdC w' br (.slice a xs.length cap) p p e /\ (w.drewN m).grownBy w' (some br)) := fun m => fail_ok br _ p p e (w.drewN m) h
 have h1 : (e != 0) = true := by simp; omega
 clear h hg hsee he hsee'
 go_enter Tryz.func92, Tryz.ntmps92
 go_wp2_with fail
 go_quiet (first | (go_at_call 113; refine (HG.out _).mono ?_; rintro e w' ⟨rfl, rfl⟩; exact ⟨rfl, _, rfl⟩))
 go_wp2_with (go_at_call 75; go_must (refine (HF.out _).mono ?_); rintro e w' ⟨rfl, hr, hgr⟩)
 go_ret
 exact ⟨rfl, hr, (grown_drewN _ _ _).trans hgr⟩
set_option maxHeartbeats 1600000 in
theorem signed_ok (br : Nat) (a : Option Addr) (cap : Nat) (xs : List Int) (p : Nat) (w : World) (h : RdC w br (.slice a xs.length cap) p 0 0) (hsee : Sees .u8 w (.slice a xs.length cap) xs) (hp : p <= xs.length) (hc : xs.length <= cap) (hm : cap <= 9223372036854775807)
  (n : Int) (j : Nat) (hg : getL 0 0 (xs.drop p) = (n, (j : Int), 0)) (hpj : p + j <= xs.length) :
  Calls Tryz.prog 92 #[rdP br] w fun x w' => x = .returned (.int .i64 (unfoldI n)) /\ RdC w' br (.slice a xs.length cap) ((p + j : Nat) : Int) 0 0 /\ w.grownBy w' (some br) := by
 obtain ⟨c0, c1, c2, c3⟩ := h.cells
 have f1 := h.frozen 1
 obtain ⟨cv, hs, hsee'⟩ : ∃ cv, (∀ w, (Instr.slice 29 (.slice a xs.length cap) (some (.int .i64 p)) none none).run Tryz.prog w = .ok cv w) /\ Sees .u8 w cv (xs.drop p) := ⟨_, fun w => run_from Tryz.underlying29 size_u8 a xs.length cap p hp w, hsee.from' p hp hc⟩
 have HG : Hid (∀ m, Calls Tryz.prog 113 #[cv] (w.drewN m) fun x w' => x = .returned (.tuple #[.int .i64 (unfoldI n), .int .i64 j, .int .i64 0]) /\ w.drewN m = w') := fun m => getint_eq (w := w.drewN m) hsee' hg
 have HR : Hid (∀ m, RdC ((w.drewN m).setCell ⟨br, 1, none⟩ (.int .i64 ((p : Int) + (j : Int)))) br (.slice a xs.length cap) ((p + j : Nat) : Int) 0 0) := fun m => by
  have := RdC.set1 (w := w.drewN m) h ((p + j : Nat) : Int)
  rwa [Int.natCast_add] at this ⊢
 clear h hg hsee hsee'
 generalize unfoldI n = u at *
 go_enter Tryz.func92, Tryz.ntmps92
 go_wp2_with fail
 go_quiet (first | (go_at_call 113; refine (HG.out _).mono ?_; rintro e w' ⟨rfl, rfl⟩; exact ⟨rfl, _, rfl⟩))
 go_wp2_with fail
 go_ret
 exact ⟨rfl, HR.out _, (grown_drewN _ _ _).trans (grown_set_w _ ⟨br, 1, none⟩ _)⟩
theorem unfold_bd {u : Int} (h : 0 <= u) (h' : u < 18446744073709551616) : -9223372036854775808 <= unfoldI u /\ unfoldI u <= 9223372036854775807 := by unfold unfoldI; split <;> omega
theorem signed_any (br : Nat) (a : Option Addr) (cap : Nat) (xs : List Int) (s : St_w) (w : World) (h : RdAt w br (.slice a xs.length cap) xs.length s) (hsee : Sees .u8 w (.slice a xs.length cap) xs) :
  Calls Tryz.prog 92 #[rdP br] w fun x w' => ∃ s' n, x = .returned (.int .i64 n) /\ -9223372036854775808 <= n /\ n <= 9223372036854775807 /\ RdAt w' br (.slice a xs.length cap) xs.length s' /\ After s (sgnR xs) s' n /\ w.grownBy w' (some br) := by
 have hb := hsee.bytes
 have hcap : xs.length <= cap /\ cap <= 9223372036854775807 := by
  obtain ⟨a', cap', hv, h1, h2, _⟩ := hsee
  injection hv with _ _ e
  subst e
  exact ⟨h1, h2⟩
 cases s with
 | error x =>
  obtain ⟨z, hz⟩ := h.2
  exact (signed_bad br _ z x.1 x.2 w hz h.1).mono fun y w' ⟨h1, h2⟩ => ⟨.error x, 0, h1, by omega, by omega, by subst h2; exact h, rfl, by subst h2; exact grown_refl _ _⟩
 | ok p =>
  rcases get_at hb p h.1 with ⟨e, he, hg⟩ | ⟨n, j, hg, hn0, hn1, hj, hpj⟩
  ·exact (signed_err br a cap xs p w h.2 hsee h.1 hcap.1 hcap.2 e he hg).mono fun y w' ⟨h1, h2, h3⟩ => ⟨.error ((p : Int), e), 0, h1, by omega, by omega, ⟨by omega, _, h2⟩, sgnR_err hg (by omega), h3⟩
  ·have hu := unfold_bd hn0 hn1
   exact (signed_ok br a cap xs p w h.2 hsee h.1 hcap.1 hcap.2 n j hg hpj).mono fun y w' ⟨h1, h2, h3⟩ => ⟨.ok (p + j), unfoldI n, h1, hu.1, hu.2, ⟨hpj, h2⟩, sgnR_ok hg, h3⟩
end Go.Proofs.YtlkdniglaldilaaGreat
