/-
  T26Std
  T26Lt
  T26Lo
-/
import Derived.Test.YtbfbfbbpajaclaaDoorMB4
import Derived.Test.YtbfbfbbpajaclaaDoorMB5
import Derived.Test.YtbfbfbbpajaclaaDoorMB14
import Derived.Test.YtbfbfbbpajaclaaDoorMB23
import Derived.Test.YtbfbfbbpajaclaaDoorMB21
import Derived.Test.YtbfbfbbpajaclaaDoorMB19
import Derived.Test.YtbfbfbbpajaclaaDoorMB31
import Derived.Lib.AtoiErrMem
import Derived.Lib.ItoaMem
import Derived.Lib.Walk
import Derived.BigCall
import Derived.BigGuard
/-
  The library's functions that the landed trace calls, in our words. Conditions: the listed variables read as they are laid; lengths within the model's bounds.
-/
namespace Go.Proofs.YtbfbfbbpajaclaaDoor
open Go.RowKit Go.Sort
set_option linter.unusedVariables false
set_option linter.unusedSimpArgs false
set_option maxRecDepth 100000
def Got (l : List UInt8) (k n : Int) : Prop := (-9223372036854775808 ≤ k ∧ k ≤ 9223372036854775807) ∧ (0 ≤ n ∧ n ≤ 18446744073709551615) ∧ (∀ v : Int, -9223372036854775808 ≤ v → v ≤ 9223372036854775807 → l = numL v → k = v) ∧ ∀ u : Nat, u ≤ 18446744073709551615 → l = digF 20 u → n = u
theorem grow_below {w : World} (k : Nat) (os : Array Obj) : Below w.heap.size w (Sort.grow (w.drewN k) os) := ⟨rfl, rfl, rfl, by simp [Sort.grow], fun k hk => by simp [Sort.grow, Array.getElem?_append_left hk]⟩
theorem itoa_any (n : Int) (w : World) (h : Laid w) (hn : -9223372036854775808 ≤ n ∧ n ≤ 9223372036854775807) : Calls Tryd.prog 55 #[.int .i64 n] w fun e w' => e = .returned (.string (str (numL n))) ∧ Below w.heap.size w w' := by
  refine (Tryd.strconv_Itoa n hn.1 hn.2 w h.2.1).mono ?_
  rintro e w' ⟨he, k, os, rfl⟩
  rw [num_itoa hn] at he
  exact ⟨he, grow_below k os⟩
/-- A number's digits in a row of bytes, and the row as a string. -/
theorem fuhi26 (n : Nat) (hn : n < 18446744073709551616) (h100 : ¬ n < 100) (w : World) (h : Laid w) : Calls Tryd.prog 66 #[.int .u64 n, .int .i64 10] w fun e w' => e = .returned (.string (str (digF 20 n))) ∧ Below w.heap.size w w' := by
  have hdd := dig_dec (u := n) (by omega)
  have hnd := Lib.numDigits_eq n (by omega) hn
  have hnd20 : Lib.nDigits n ≤ 20 := by split at hnd <;> omega
  clear hnd
  obtain ⟨k, HK, hk⟩ : ∃ k, Hid (Lib.nDigits n = k) ∧ k ≤ 20 := ⟨_, rfl, hnd20⟩
  have hal : Tryd.prog.arrayLen 105 = 24 := by kernel_rfl
  have HSL : Hid (∀ W, (Instr.sliceAt 105 (.pointer (some ⟨w.heap.size, 0, none⟩)) none (some (.int .i64 (k : Int))) none).run Tryd.prog W = .ok (.slice (some ⟨w.heap.size, 0, none⟩) k 24) W) := fun W => by
    rw [run_sliceAt_array_h W 105 ⟨w.heap.size, 0, none⟩ (by kernel_rfl) .i64 (k : Int) (by omega) (by rw [hal]; omega)]
    go_simp
  have hH0 : Holds (fun (b : UInt8) => Value.int .u8 (b.toNat : Int)) (w.alloc (.cells Lib.zeros24 105)) w.heap.size 0 (Array.replicate k (0 : UInt8)) := fun j hj => by
    have hj' : j < k := by simpa using hj
    refine ⟨?_, World.frozen?_alloc_new _ _ _ _⟩
    rw [World.cell?_alloc_new, Lib.zeros24_at _ (by omega), getElem!_pos _ j hj]
    simp
  have hL : Laid (w.alloc (.cells Lib.zeros24 105)) := laid_keeps _ _ h (below_allocG w _)
  have HND : Hid (Calls Tryd.prog 78 #[.int .u64 n] (w.alloc (.cells Lib.zeros24 105)) fun e w' => e = .returned (.int .i64 k) ∧ w' = w.alloc (.cells Lib.zeros24 105)) := by
    have c : Calls Tryd.prog 78 #[.int .u64 n] (w.alloc (.cells Lib.zeros24 105)) _ := Any.internal_strconv_numDigits { Tryd.laysM171 with } n (by omega) hn _ hL.2.1
    rw [HK.out] at c
    exact c
  have HFB : Hid (Calls Tryd.prog 79 #[.slice (some ⟨w.heap.size, 0, none⟩) k 24, .int .u64 n] (w.alloc (.cells Lib.zeros24 105)) fun e w' => e = .returned (.tuple #[]) ∧ ∃ (m v' : Nat) (dk : Array UInt8), w' = (putRow (fun (b : UInt8) => Value.int .u8 (b.toNat : Int)) (w.alloc (.cells Lib.zeros24 105)) w.heap.size 0 dk).drewN m ∧ Lib.FmtInv k n 0 v' dk) := by
    have hz : (Array.replicate k (0 : UInt8)).size = k := Array.size_replicate
    have c : Calls Tryd.prog 79 #[.slice (some ⟨w.heap.size, 0, none⟩) (Array.replicate k (0 : UInt8)).size 24, .int .u64 n] (w.alloc (.cells Lib.zeros24 105)) _ := Any.internal_strconv_formatBase10 { Tryd.laysM171 with } w.heap.size 0 24 n (Array.replicate k 0) (w.alloc (.cells Lib.zeros24 105)) hH0 (by rw [hz, ← HK.out]; exact Lib.lt_pow_nDigits n) hn (by rw [hz]; omega)
    rw [hz] at c
    exact c
  have HH0 := keepG hH0
  clear hH0 hL h
  have h100I : ¬ (n : Int) < 100 := by omega
  have hslR := HSL.out
  go_enter Tryd.func66, Tryd.ntmps66
  go_wp2_with (first
    | (go_at_call 78; go_must (refine HND.out.mono ?_); rintro e1 w1 ⟨rfl, rfl⟩))
  go_at_call 79
  refine HFB.out.mono ?_
  rintro e1 w2 ⟨rfl, m, v', dk, rfl, hF⟩
  have hcv : (convert 62 9 (.slice (some ⟨w.heap.size, 0, none⟩) k 24)).run Tryd.prog ((putRow (fun (b : UInt8) => Value.int .u8 (b.toNat : Int)) (w.alloc (.cells Lib.zeros24 105)) w.heap.size 0 dk).drewN m) = .ok (.string (str (digF 20 n))) ((putRow (fun (b : UInt8) => Value.int .u8 (b.toNat : Int)) (w.alloc (.cells Lib.zeros24 105)) w.heap.size 0 dk).drewN m) := by
    have hc := run_convert_bytes_back (P := Tryd.prog) ((putRow (fun (b : UInt8) => Value.int .u8 (b.toNat : Int)) (w.alloc (.cells Lib.zeros24 105)) w.heap.size 0 dk).drewN m) 62 9 5 ⟨w.heap.size, 0, none⟩ 24 (Lib.decDigits n) Tryd.underlying62 Tryd.underlying5 Tryd.underlying9 (fun j hj => by
      have hF' : Lib.FmtInv (Lib.nDigits n) n 0 v' dk := by rw [HK.out]; exact hF
      rw [Lib.row_is_numeral hF' j hj, Lib.add_plain, World.cell?_drewN]
      exact cell?_putRow (fun (b : UInt8) => Value.int .u8 (b.toNat : Int)) _ w.heap.size 0 _ dk HH0.out (by rw [hF.size, Array.size_replicate]) j (by rw [hF.size, ← HK.out]; rw [Lib.decDigits_length] at hj; exact hj))
    rw [Lib.decDigits_length, HK.out, hdd] at hc
    exact hc
  go_wp2
  go_ret
  refine ⟨rfl, ?_⟩
  have e0 := Sort.putRow_grow_new (fun (b : UInt8) => Value.int .u8 (b.toNat : Int)) w #[.cells Lib.zeros24 105] w.heap.size 0 dk (Nat.le_refl _)
  obtain ⟨os', _, e0⟩ := e0
  rw [Sort.alloc_eq_grow, e0]
  exact grow_below m os'
theorem fulo26 (n : Nat) (h100 : n < 100) (w : World) : Calls Tryd.prog 66 #[.int .u64 n, .int .i64 10] w fun e w' => e = .returned (.string (str (digF 20 n))) ∧ Below w.heap.size w w' := by
  have hdd := dig_dec (u := n) (by omega)
  have h100I : (n : Int) < 100 := by omega
  have HS : Hid (Calls Tryd.prog 77 #[.int .i64 n] w fun e w' => e = .returned (.string (str (digF 20 n))) ∧ w' = w) := by
    have c : Calls Tryd.prog 77 #[.int .i64 n] w _ := Any.internal_strconv_small { Tryd.laysM171 with } n h100 w
    rw [hdd] at c
    exact c
  clear hdd
  go_enter Tryd.func66, Tryd.ntmps66
  go_wp2_with (go_at_call 77; go_must (refine HS.out.mono ?_); rintro e1 w1 ⟨rfl, rfl⟩)
  go_ret
  exact ⟨rfl, Below.refl _ _⟩
theorem fmtu_any (n : Nat) (w : World) (h : Laid w) (hn : n < 18446744073709551616) : Calls Tryd.prog 56 #[.int .u64 n, .int .i64 10] w fun e w' => e = .returned (.string (str (digF 20 n))) ∧ Below w.heap.size w w' := by
  have HS : Hid (Calls Tryd.prog 66 #[.int .u64 n, .int .i64 10] w fun e w' => e = .returned (.string (str (digF 20 n))) ∧ Below w.heap.size w w') := by
    by_cases h100 : n < 100
    · exact fulo26 n h100 w
    · exact fuhi26 n hn h100 w h
  clear h
  go_enter Tryd.func56, Tryd.ntmps56
  go_wp2_with (go_at_call 66; go_must (refine HS.out.mono ?_); rintro e1 w1 ⟨rfl, hb1⟩)
  go_ret
  exact ⟨rfl, hb1⟩
theorem fmtu_int (x : Int) (w : World) (h : Laid w) (hx : 0 ≤ x ∧ x < 18446744073709551616) : Calls Tryd.prog 56 #[.int .u64 x, .int .i64 10] w fun e w' => e = .returned (.string (str (digF 20 x.toNat))) ∧ Below w.heap.size w w' := by
  obtain ⟨n, rfl⟩ : ∃ n : Nat, x = n := ⟨x.toNat, by omega⟩
  exact fmtu_any n w h (by omega)
theorem atoi_any (l : List UInt8) (w : World) (h : Laid w) (hl : l.length ≤ 140737488355328) : Calls Tryd.prog 58 #[.string (str l)] w fun e w' => (∃ k v, e = .returned (.tuple #[.int .i64 k, v]) ∧ Hid ((-9223372036854775808 ≤ k ∧ k ≤ 9223372036854775807) ∧ ∀ x : Int, -9223372036854775808 ≤ x → x ≤ 9223372036854775807 → l = numL x → k = x)) ∧ Below w.heap.size w w' := by
  obtain ⟨_, _, ⟨t3, p3, h3⟩, t4, p4, h4⟩ := h
  have key : ∀ x : Int, -9223372036854775808 ≤ x → x ≤ 9223372036854775807 → l = numL x → Lib.atoiAll l = .ok x := fun x h1 h2 e => by rw [e]; exact parse_num ⟨h1, h2⟩
  rcases hp : Lib.atoiAll l with n | _ | _
  · refine (Tryd.strconv_Atoi_ok (str l) (by show l.length ≤ _; omega) n hp w).mono ?_
    rintro e w' ⟨he, hw⟩
    refine ⟨⟨n, _, he, Lib.atoiAll_bounds hp, fun x h1 h2 e => ?_⟩, ?_⟩
    · have := key x h1 h2 e
      rw [hp] at this
      injection this
    · rcases hw with rfl | ⟨t, rfl⟩
      · exact Below.refl _ _
      · exact Lib.bytesWorld_below _ _ _
  · refine (Tryd.strconv_Atoi_syntax_var (str l) (by show l.length ≤ _; omega) hp t3 p3 w h3).mono ?_
    rintro e w' ⟨N, he, _, _, hb⟩
    refine ⟨⟨_, _, he, ⟨by omega, by omega⟩, fun x h1 h2 e => ?_⟩, hb⟩
    have := key x h1 h2 e
    rw [hp] at this
    cases this
  · refine (Tryd.strconv_Atoi_range_var (str l) (by show l.length ≤ _; omega) hp t4 p4 w h4).mono ?_
    rintro e w' ⟨N, he, _, _, hb⟩
    refine ⟨⟨_, _, he, sat_in _, fun x h1 h2 e => ?_⟩, hb⟩
    have := key x h1 h2 e
    rw [hp] at this
    cases this
theorem parseM_lt : ∀ (l : List UInt8) (acc u : Nat), acc < 18446744073709551616 → Lib.parseUintM (2 ^ 64 - 1) acc l = .ok u → u < 18446744073709551616
  | [], acc, u, h, e => by simp only [Lib.parseUintM] at e; injection e with e; omega
  | c :: r, acc, u, h, e => by
    simp only [Lib.parseUintM] at e
    split at e
    · split at e
      · cases e
      · split at e
        · cases e
        · exact parseM_lt r _ u (by omega) e
    · cases e
theorem pu_any (l : List UInt8) (w : World) (h : Laid w) (hl : l.length ≤ 140737488355328) : Calls Tryd.prog 59 #[.string (str l), .int .i64 10, .int .i64 64] w fun e w' => (∃ (n : Int) (v : Value), e = .returned (.tuple #[.int .u64 n, v]) ∧ Hid ((0 ≤ n ∧ n ≤ 18446744073709551615) ∧ ∀ u : Nat, u ≤ 18446744073709551615 → l = digF 20 u → n = u)) ∧ Below w.heap.size w w' := by
  obtain ⟨_, _, ⟨t3, p3, h3⟩, t4, p4, h4⟩ := h
  have key : ∀ u : Nat, u ≤ 18446744073709551615 → l = digF 20 u → Lib.parseUintB 64 l = .ok u := fun u h1 e => by rw [e]; exact parse_dig h1
  rcases hp : Lib.parseUintB 64 l with n | _ | _
  · have hn : n < 18446744073709551616 := by
      unfold Lib.parseUintB at hp
      split at hp
      · cases hp
      · exact parseM_lt l 0 n (by omega) hp
    refine (Tryd.strconv_ParseUint_10_at64_ok (str l) (by show l.length ≤ _; omega) n hp w).mono ?_
    rintro e w' ⟨he, hw⟩
    refine ⟨⟨n, _, he, ⟨by omega, by omega⟩, fun x h1 e => ?_⟩, ?_⟩
    · have := key x h1 e
      rw [hp] at this
      injection this with this
      omega
    · rcases hw with rfl | rfl
      · exact Below.refl _ _
      · exact Lib.bytesWorld_below _ _ _
  · refine (Tryd.strconv_ParseUint_10_at64_syntax_var (str l) (by show l.length ≤ _; omega) hp t3 p3 w h3).mono ?_
    rintro e w' ⟨N, he, _, _, hb⟩
    refine ⟨⟨_, _, he, ⟨by omega, by omega⟩, fun x h1 e => ?_⟩, hb⟩
    have := key x h1 e
    rw [hp] at this
    cases this
  · refine (Tryd.strconv_ParseUint_10_at64_range_var (str l) (by show l.length ≤ _; omega) hp t4 p4 w h4).mono ?_
    rintro e w' ⟨N, he, _, _, hb⟩
    refine ⟨⟨_, _, he, ⟨by omega, by omega⟩, fun x h1 e => ?_⟩, hb⟩
    have := key x h1 e
    rw [hp] at this
    cases this
theorem suf_any (l m : List UInt8) (w : World) (hl : l.length ≤ 140737488355328) : Calls Tryd.prog 45 #[.string (str l), .string (str m)] w fun e w' => e = .returned (.bool (Lib.hasSuffix l m)) ∧ w = w' := by
  refine (Tryd.strings_HasSuffix (str l) (str m) w (by show l.length ≤ _; omega)).mono ?_
  rintro e w' ⟨he, hn⟩
  exact ⟨he, hn.symm⟩
/-- A text without the letter ahead of it. -/
def trimE (l : List UInt8) (c : UInt8) : List UInt8 := Lib.trimPrefix l [c]
theorem trim_cons (c : UInt8) (l : List UInt8) : trimE (c :: l) c = l := by unfold trimE Lib.trimPrefix Lib.hasPrefix; simp [List.isPrefixOf]
theorem trim_len (l : List UInt8) (c : UInt8) : (trimE l c).length ≤ l.length := by unfold trimE Lib.trimPrefix; split <;> simp
theorem trim_any (l : List UInt8) (c : UInt8) (w : World) : Calls Tryd.prog 49 #[.string (str l), .string (str [c])] w fun e w' => e = .returned (.string (str (trimE l c))) ∧ w = w' := by
  refine (Tryd.strings_TrimPrefix (str l) (str [c]) w).mono ?_
  rintro e w' ⟨he, hn⟩
  exact ⟨he, hn.symm⟩
theorem hasb26 (l : List UInt8) (c : UInt8) (w : World) : Calls Tryd.prog 48 #[.string (str l), .string (str [c])] w fun e w' => e = .returned (.bool (l.contains c)) ∧ w = w' := by
  refine (Tryd.strings_Contains_one (str l) c w).mono ?_
  rintro e w' ⟨he, hn⟩
  refine ⟨?_, hn.symm⟩
  rw [he]
  show Ending.returned (.bool (decide (0 ≤ Lib.indexByte l c))) = _
  rw [has_byte]
def layB_ren : Go.Shelf.Ren := ⟨fun | 166 => 24 | 167 => 26 | 240 => 38 | 276 => 53 | n => n, fun | 9 => 9 | 3 => 3 | 4 => 4 | 0 => 0 | 20 => 20 | 72 => 64 | 70 => 61 | 37 => 62 | 75 => 66 | 164 => 92 | 5 => 5 | 80 => 71 | n => n, fun | n => n⟩
theorem layS : Go.Proofs.Lays.n166 Tryd.prog layB_ren := {
  mixed := by kernel_rfl
  f166 := Tryd.func24.trans (congrArg some (by kernel_rfl))
  f240 := Tryd.func38.trans (congrArg some (by kernel_rfl))
  f276 := Tryd.func53.trans (congrArg some (by kernel_rfl))
  t0 := Tryd.underlying0, a0 := Tryd.isAgg0, z0 := Tryd.sizeOf0, v0 := Tryd.zeroValue0
  t3 := Tryd.underlying3, a3 := Tryd.isAgg3, z3 := Tryd.sizeOf3, v3 := Tryd.zeroValue3
  t4 := Tryd.underlying4, a4 := Tryd.isAgg4, z4 := Tryd.sizeOf4, v4 := Tryd.zeroValue4
  t9 := Tryd.underlying9, a9 := Tryd.isAgg9, z9 := Tryd.sizeOf9, v9 := Tryd.zeroValue9
  t20 := Tryd.underlying20, a20 := Tryd.isAgg20, z20 := Tryd.sizeOf20, v20 := Tryd.zeroValue20
  t37 := Tryd.underlying62, a37 := Tryd.isAgg62, z37 := Tryd.sizeOf62, v37 := Tryd.zeroValue62
  t70 := Tryd.underlying61, a70 := Tryd.isAgg61, z70 := Tryd.sizeOf61, v70 := Tryd.zeroValue61
  t72 := Tryd.underlying64, a72 := Tryd.isAgg64, z72 := Tryd.sizeOf64, v72 := Tryd.zeroValue64
  t75 := Tryd.underlying66, a75 := Tryd.isAgg66, z75 := Tryd.sizeOf66, v75 := Tryd.zeroValue66
  t164 := Tryd.underlying92, a164 := Tryd.isAgg92, z164 := Tryd.sizeOf92, v164 := Tryd.zeroValue92 }
theorem layY : Go.Proofs.Lays.n167 Tryd.prog layB_ren := {
  mixed := by kernel_rfl
  f167 := Tryd.func26.trans (congrArg some (by kernel_rfl))
  f240 := layS.f240, f276 := layS.f276, t0 := layS.t0, a0 := layS.a0, z0 := layS.z0, v0 := layS.v0, t4 := layS.t4, a4 := layS.a4, z4 := layS.z4, v4 := layS.v4
  t5 := Tryd.underlying5, a5 := Tryd.isAgg5, z5 := Tryd.sizeOf5, v5 := Tryd.zeroValue5
  t9 := layS.t9, a9 := layS.a9, z9 := layS.z9, v9 := layS.v9, t20 := layS.t20, a20 := layS.a20, z20 := layS.z20, v20 := layS.v20, t37 := layS.t37, a37 := layS.a37, z37 := layS.z37, v37 := layS.v37
  t70 := layS.t70, a70 := layS.a70, z70 := layS.z70, v70 := layS.v70, t72 := layS.t72, a72 := layS.a72, z72 := layS.z72, v72 := layS.v72, t75 := layS.t75, a75 := layS.a75, z75 := layS.z75, v75 := layS.v75, t164 := layS.t164, a164 := layS.a164, z164 := layS.z164, v164 := layS.v164 }
theorem layX : Builder.Extra Tryd.prog layB_ren := {
  sizeBuilder := by kernel_rfl
  liesBuilder := by kernel_rfl
  t5 := Tryd.underlying5, a5 := Tryd.isAgg5, z5 := Tryd.sizeOf5, v5 := Tryd.zeroValue5
  infoByte := by kernel_rfl
  cellsByte := by kernel_rfl
  sizeByte := by kernel_rfl
  neB5 := by decide }
/-- A builder of our own that holds these bytes. -/
abbrev Builds (B b : Nat) (l : List UInt8) (w : World) : Prop := Lib.IsBuilderF 64 5 B b (bytesV l) w
theorem builds_at {B b : Nat} {l : List UInt8} {w : World} (h : Builds B b l w) : B ≤ b ∧ b < w.heap.size := by
  rcases h with h | h
  · exact ⟨h.1, h.lt⟩
  · exact ⟨h.1, h.lt⟩
theorem wstring_any (B b : Nat) (l m : List UInt8) (w : World) (h : Builds B b l w) (hlen : l.length + m.length ≤ 140737488355328) (hB : B ≤ w.heap.size) :
    Calls Tryd.prog 24 #[.pointer (some ⟨b, 0, none⟩), .string (str m)] w fun e w' => e = .returned (.tuple #[.int .i64 m.length, .nilIface]) ∧ Builds B b (l ++ m) w' ∧ Below B w w' := by
  have c : Calls Tryd.prog 24 #[.pointer (some ⟨b, 0, none⟩), .string (str m)] w _ := Any.Builder_WriteString_k layS layX B b (bytesV l) (str m) w h (by show (bytesV l).length + m.length ≤ _; simpa [bytesV] using hlen) hB
  refine c.mono ?_
  rintro e w' ⟨he, h1, h2, _⟩
  refine ⟨he, .inr ?_, h2⟩
  have e : bytesV (l ++ m) = bytesV l ++ Lib.strCells (str m) := by rw [strCells_str]; simp [bytesV]
  rw [e]
  exact h1
theorem wbyte_any (B b : Nat) (l : List UInt8) (c : UInt8) (w : World) (h : Builds B b l w) (hlen : l.length + 1 ≤ 140737488355328) (hB : B ≤ w.heap.size) :
    Calls Tryd.prog 26 #[.pointer (some ⟨b, 0, none⟩), .int .u8 c.toNat] w fun e w' => e = .returned .nilIface ∧ Builds B b (l ++ [c]) w' ∧ Below B w w' := by
  have k : Calls Tryd.prog 26 #[.pointer (some ⟨b, 0, none⟩), .int .u8 c.toNat] w _ := Any.Builder_WriteByte_k layY layX B b (bytesV l) c.toNat w h (by simpa [bytesV] using hlen) hB
  refine k.mono ?_
  rintro e w' ⟨he, h1, h2, _⟩
  refine ⟨he, .inr ?_, h2⟩
  have e : bytesV (l ++ [c]) = bytesV l ++ [.int .u8 c.toNat] := by simp [bytesV]
  rw [e]
  exact h1
theorem bstring_any (B b : Nat) (l : List UInt8) (w : World) (h : Builds B b l w) (hB : B ≤ w.heap.size) :
    Calls Tryd.prog 27 #[.pointer (some ⟨b, 0, none⟩)] w fun e w' => e = .returned (.string (str l)) ∧ Below B w w' := by
  refine (Tryd.Builder_String_any_k B b l w h hB).mono ?_
  rintro e w' ⟨he, _, h2, _⟩
  exact ⟨he, h2⟩
theorem builds_below {B b : Nat} {l : List UInt8} {w w' : World} (h : Builds B b l w) (hb : Below w.heap.size w w') : Builds B b l w' := by
  have key : ∀ p, Lib.BuilderAtF 64 5 B b p (bytesV l) w → Lib.BuilderAtF 64 5 B b p (bytesV l) w' := by
    rintro p ⟨h1, v, h2, h3, h4⟩
    have hlt : b < w.heap.size := (Array.getElem?_eq_some_iff.1 h2).1
    refine ⟨h1, v, by rw [hb.block b hlt]; exact h2, ?_, h4⟩
    obtain ⟨h5, h6 | ⟨g, cap, cur, fz, e1, e2, e3, e4⟩⟩ := h3
    · exact ⟨h5, .inl h6⟩
    · exact ⟨h5, .inr ⟨g, cap, cur, fz, e1, e2, by rw [hb.block g (Array.getElem?_eq_some_iff.1 e3).1]; exact e3, e4⟩⟩
  exact h.elim (fun x => .inl (key _ x)) (fun x => .inr (key _ x))

/-- Cut at one byte: as great a text as there may be (the shelf's own contract bears a lesser bound, for separators of several bytes). -/
theorem scut_any (s : ByteArray) (c : UInt8) (w : World) (hsz : s.size ≤ 140737488355328) : Calls Tryd.prog 46 #[.string s, .string (str [c])] w fun e w' => e = .returned (.tuple #[.string ⟨(Lib.cut s.data.toList (str [c]).data.toList).1.toArray⟩, .string ⟨(Lib.cut s.data.toList (str [c]).data.toList).2.1.toArray⟩, .bool (Lib.cut s.data.toList (str [c]).data.toList).2.2]) ∧ ∃ n, w' = w.drewN n := by
  have hone : Lib.indexB s (str [c]) = Lib.indexByte s.data.toList c := Lib.index_one _ _
  have HI : Hid (∀ w, Calls Tryd.prog 61 #[.string s, .string (str [c])] w fun e w' => e = .returned (.int .i64 (Lib.indexB s (str [c]))) ∧ w' = w) := fun w => by rw [hone]; exact Tryd.stringslite_Index_one s c w
  clear hone
  rcases Lib.indexB_cases s (str [c]) with hix | ⟨i, hix, hroom⟩
  · obtain ⟨e1, e2, e3⟩ := Lib.cutB_miss s (str [c]) hix
    rw [e1, e2, e3]
    rw [hix] at HI
    clear hix e1 e2 e3
    go_enter Tryd.func46, Tryd.ntmps46
    go_wp2_with (go_at_call 61; go_must (refine (HI.out _).mono ?_); rintro e w' ⟨rfl, rfl⟩)
    go_ret3
    exact ⟨rfl, 0, rfl⟩
  · obtain ⟨e1, e2, e3⟩ := Lib.cutB_hit s (str [c]) i hix
    rw [e1, e2, e3]
    have hroom1 : i + 1 ≤ s.size := hroom
    have c1 : (0 : Int) ≤ (i : Int) := by omega
    have c2 : (i : Int) ≤ (s.size : Int) := by omega
    have c3 : (0 : Int) ≤ (i : Int) + 1 := by omega
    have c5 : (i : Int) + 1 ≤ 140737488355328 := by omega
    have c4 : (i : Int) + 1 ≤ (s.size : Int) := by omega
    rw [hix] at HI
    clear hix e1 e2 e3 hroom
    go_enter Tryd.func46, Tryd.ntmps46
    go_wp2_with (go_at_call 61; go_must (refine (HI.out _).mono ?_); rintro e w' ⟨rfl, rfl⟩)
    go_region
    all_goals go_wp2
    all_goals go_ret3
    all_goals exact ⟨rfl, 1, rfl⟩
theorem bcut_any (s : ByteArray) (c : UInt8) (w : World) (hsz : s.size ≤ 140737488355328) : Calls Tryd.prog 30 #[.string s, .string (str [c])] w fun e w' => e = .returned (.tuple #[.string ⟨(Lib.cut s.data.toList (str [c]).data.toList).1.toArray⟩, .string ⟨(Lib.cut s.data.toList (str [c]).data.toList).2.1.toArray⟩, .bool (Lib.cut s.data.toList (str [c]).data.toList).2.2]) ∧ ∃ n, w' = w.drewN n := by
  have HS := scut_any s c w hsz
  generalize (⟨(Lib.cut s.data.toList (str [c]).data.toList).1.toArray⟩ : ByteArray) = A at HS ⊢
  generalize (⟨(Lib.cut s.data.toList (str [c]).data.toList).2.1.toArray⟩ : ByteArray) = B at HS ⊢
  generalize (Lib.cut s.data.toList (str [c]).data.toList).2.2 = D at HS ⊢
  have HT : Hid (Calls Tryd.prog 46 #[.string s, .string (str [c])] w fun e w' => e = .returned (.tuple #[.string A, .string B, .bool D]) ∧ ∃ n, w' = w.drewN n) := HS
  clear HS
  go_enter Tryd.func30, Tryd.ntmps30
  go_wp2_with (go_at_call 46; go_must (refine HT.out.mono ?_); rintro e w' ⟨rfl, n, rfl⟩)
  go_ret3
  exact ⟨rfl, n, rfl⟩
theorem cut_any (l : List UInt8) (c : UInt8) (w : World) (hl : l.length ≤ 140737488355328) : Calls Tryd.prog 30 #[.string (str l), .string (str [c])] w fun e w' => e = .returned (.tuple #[.string (str (cutL c l).1), .string (str (cutL c l).2.1), .bool (cutL c l).2.2]) ∧ ∃ n, w' = w.drewN n := by
  refine (bcut_any (str l) c w hl).mono ?_
  rintro e w' ⟨he, hn⟩
  refine ⟨?_, hn⟩
  rw [he]
  show Ending.returned (.tuple #[.string ⟨(Lib.cut l [c]).1.toArray⟩, .string ⟨(Lib.cut l [c]).2.1.toArray⟩, .bool (Lib.cut l [c]).2.2]) = _
  rw [cut_eq]
end Go.Proofs.YtbfbfbbpajaclaaDoor
/-
  What the landed letters does: all letters of an entry's line. No condition.
-/
namespace Go.Proofs.YtbfbfbbpajaclaaDoor
open Go.RowKit
set_option linter.unusedVariables false
set_option linter.unusedSimpArgs false
set_option maxRecDepth 100000
/-- The letters of an entry's line. -/
def ltrE (e : En) : List UInt8 := if 1 ≤ e.wh ∧ e.wh ≤ 17 then fldL e.wh e.ou else []
theorem ltr_in : ∀ (k : Fin 17) (o : Bool), fldL ((k.val : Int) + 1) o = fldL ((k.val : Int) + 1) false ++ (if o && Lib.hasSuffix (fldL ((k.val : Int) + 1) false) [121, 98, 114] then [79, 86] else []) := by decide +kernel
theorem ltr_suf (m : Int) (o : Bool) : (if 1 ≤ m ∧ m ≤ 17 then fldL m o else []) = ltE m ++ (if o && Lib.hasSuffix (ltE m) [121, 98, 114] then [79, 86] else []) := by
  unfold ltE
  by_cases h : 1 ≤ m ∧ m ≤ 17
  · rw [if_pos h, if_pos h]
    have := ltr_in ⟨(m - 1).toNat, by omega⟩ o
    rw [show (((m - 1).toNat : Nat) : Int) + 1 = m by omega] at this
    exact this
  · rw [if_neg h, if_neg h]
    cases o <;> rfl
theorem ltE_len (m : Int) : (ltE m).length ≤ 14 := by unfold ltE; split; exact fldL_len _ _; simp
theorem ltrE_len (e : En) : (ltrE e).length ≤ 14 := by unfold ltrE; split; exact fldL_len _ _; simp
set_option maxHeartbeats 1600000 in
theorem lltr26b (e : En) (o : Bool) (w : World) : Calls Tryd.prog 39 #[enV { e with ou := o }] w fun r w' => r = .returned (.string (str (ltrE { e with ou := o }))) ∧ Below w.heap.size w w' := by
  obtain ⟨X, HX, HP, HB⟩ := box_en w { e with ou := o }
  have HX := HX.out
  dsimp only [enC] at HX
  have HX := keepG HX
  have q0 := HP.out.cell (j := 0) rfl
  have q17 := HP.out.cell (j := 17) rfl
  obtain ⟨f, HF⟩ : ∃ f, Hid (ltE e.wh = f) := ⟨_, rfl⟩
  have hfl : f.length ≤ 14 := by rw [← HF.out]; exact ltE_len _
  obtain ⟨b, HS⟩ : ∃ b, Hid (Lib.hasSuffix f [121, 98, 114] = b) := ⟨_, rfl⟩
  have HE : Hid (ltrE { e with ou := o } = f ++ (if o && b then [79, 86] else [])) := by
    show ltrE { e with ou := o } = _
    have := ltr_suf e.wh o
    rw [HF.out, HS.out] at this
    exact this
  unfold enV
  cases o
  · go_enter Tryd.func39, Tryd.ntmps39
    go_wp2_with (first
      | (rw [HX.out])
      | (go_at_call 54; go_must (refine (lof26 e.wh _).mono ?_); rintro e1 w1 ⟨rfl, rfl⟩; go_must (rw [HF.out])))
    go_ret
    exact ⟨rets (by rw [HE.out]; simp), HB.out⟩
  · cases b
    · go_enter Tryd.func39, Tryd.ntmps39
      go_wp2_with (first
        | (rw [HX.out])
        | (go_at_call 54; go_must (refine (lof26 e.wh _).mono ?_); rintro e1 w1 ⟨rfl, rfl⟩; go_must (rw [HF.out]))
        | (go_at_call 45; go_must (refine (suf_any f [121, 98, 114] _ (by omega)).mono ?_); rintro e1 w1 ⟨rfl, rfl⟩; go_must (rw [HS.out])))
      go_ret
      exact ⟨rets (by rw [HE.out]; simp), HB.out⟩
    · go_enter Tryd.func39, Tryd.ntmps39
      go_wp2_with (first
        | (rw [HX.out])
        | (go_at_call 54; go_must (refine (lof26 e.wh _).mono ?_); rintro e1 w1 ⟨rfl, rfl⟩; go_must (rw [HF.out]))
        | (go_at_call 45; go_must (refine (suf_any f [121, 98, 114] _ (by omega)).mono ?_); rintro e1 w1 ⟨rfl, rfl⟩; go_must (rw [HS.out])))
      go_ret
      exact ⟨rets (by rw [HE.out]; exact str_app f [79, 86]), HB.out⟩
theorem lltr26 (e : En) (w : World) : Calls Tryd.prog 39 #[enV e] w fun r w' => r = .returned (.string (str (ltrE e))) ∧ Below w.heap.size w w' := lltr26b e e.ou w
end Go.Proofs.YtbfbfbbpajaclaaDoor
/-
  Layer 26, landed, plain: a field's digits, the letters of an entry, a line read loosely. No Go text in sight.
-/
namespace Go.Proofs.YtbfbfbbpajaclaaDoor
open Go.RowKit
set_option linter.unusedVariables false
set_option linter.unusedSimpArgs false
set_option maxRecDepth 100000
theorem wd1_dg (e : En) (c : UInt8) : wd1 e c = c :: dgE e c := rfl
theorem wdE_dg (e : En) (c : UInt8) : wdE e c = 32 :: c :: dgE e c := rfl
theorem dgE_len (e : En) (c : UInt8) : (dgE e c).length ≤ 21 := by
  have h1 := digF_len 20 (unE e c.toNat).1.toNat
  have h2 := numL_len (sgE e c.toNat)
  unfold dgE
  split <;> omega
theorem ltrE_mem {e : En} {c : UInt8} (h : c ∈ ltrE e) : c ∈ allL ∧ c ≠ 32 := by
  unfold ltrE at h
  split at h
  · rename_i hm; exact fld_mem hm h
  · cases h
/-- Is an eviction's letters' pair at the end? -/
theorem suf_in : ∀ (k : Fin 17) (o : Bool), Lib.hasSuffix (fldL ((k.val : Int) + 1) o) [79, 86] = (o && inL26 (fldL ((k.val : Int) + 1) o) 121) := by decide +kernel
theorem suf_ltr (e : En) : Lib.hasSuffix (ltrE e) [79, 86] = (e.ou && inL26 (ltrE e) 121) := by
  unfold ltrE
  by_cases h : 1 ≤ e.wh ∧ e.wh ≤ 17
  · rw [if_pos h]
    have := suf_in ⟨(e.wh - 1).toNat, by omega⟩ e.ou
    rw [show (((e.wh - 1).toNat : Nat) : Int) + 1 = e.wh by omega] at this
    exact this
  · rw [if_neg h]
    cases e.ou <;> rfl
theorem Got.zero {k n : Int} (h : Got [48] k n) : k = 0 ∧ n = 0 := ⟨h.2.2.1 0 (by omega) (by omega) (by decide +kernel), h.2.2.2 0 (by omega) (by decide +kernel)⟩
theorem un_bd {e : En} (hw : e.wf) (c : Nat) : (unE e c).1.toNat ≤ 18446744073709551615 ∧ ((unE e c).1.toNat : Int) = (unE e c).1 := by have := hw.un c; omega
/-- A field that was written is set. -/
theorem Got.back {e e0 : En} (hw : e.wf) {c : UInt8} (hc : c ∈ allL) {k n : Int} (h : Got (dgE e c) k n) : Eq26 (putE e0 c.toNat k n) e c := by
  cases hu : (unE e c.toNat).2 with
  | true =>
    obtain ⟨b1, b2⟩ := un_bd hw c.toNat
    have hn : n = (unE e c.toNat).1 := by rw [← b2]; exact h.2.2.2 _ b1 (by unfold dgE; rw [if_pos hu])
    refine ⟨?_, fun h => by rw [hu] at h; cases h⟩
    rw [put_un e0 _ _ hc (by rw [un_snd e0 e]; exact hu), hn, ← hu]
  | false =>
    have hs := hw.si c.toNat
    have hk : k = sgE e c.toNat := h.2.2.1 _ hs.1 hs.2 (by unfold dgE; rw [if_neg (by rw [hu]; decide)])
    subst hk
    have h98 : c = 98 → sgE e c.toNat = 0 ∨ sgE e c.toNat = 1 := fun h => by
      subst h
      show (if e.fo = true then (1 : Int) else 0) = 0 ∨ (if e.fo = true then (1 : Int) else 0) = 1
      cases e.fo <;> simp
    obtain ⟨p1, p2⟩ := put_sg e0 (sgE e c.toNat) n hc (by rw [un_snd e0 e]; exact hu) h98
    exact ⟨by rw [p1, un_no hu], fun _ => p2⟩
theorem putE_wf' {e : En} (hw : e.wf) {c : Nat} {l : List UInt8} {k n : Int} (h : Got l k n) : (putE e c k n).wf := putE_wf hw c h.1 h.2.1
end Go.Proofs.YtbfbfbbpajaclaaDoor
