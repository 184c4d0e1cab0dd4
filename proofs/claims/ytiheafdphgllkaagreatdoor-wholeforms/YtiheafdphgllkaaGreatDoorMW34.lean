/-
  KL3Std
  KL3Word
  KL3Line
  KL3Take
-/
import Derived.Test.YtiheafdphgllkaaGreatDoorMW2
import Derived.Test.YtiheafdphgllkaaGreatDoorMW9
import Derived.Test.YtiheafdphgllkaaGreatDoorMW32
import Derived.Test.YtiheafdphgllkaaGreatDoorMW13
import Derived.Test.YtiheafdphgllkaaGreatDoorMW16
import Derived.Lib.AtoiErrMem
namespace Go.Proofs.YtiheafdphgllkaaGreatDoor
open Go.RowKit
set_option linter.unusedVariables false
set_option maxRecDepth 100000
set_option linter.unusedSimpArgs false
def layB_ren : Go.Shelf.Ren := ⟨fun | 166 => 14 | 167 => 16 | 240 => 37 | 276 => 71 | n => n, fun | 9 => 9 | 3 => 3 | 4 => 4 | 0 => 0 | 20 => 20 | 72 => 63 | 70 => 61 | 37 => 37 | 75 => 65 | 164 => 164 | 5 => 5 | 80 => 70 | n => n, fun | n => n⟩
theorem layS : Go.Proofs.Lays.n166 Tryz.prog layB_ren := {
 mixed := by kernel_rfl
 f166 := Tryz.func14.trans (congrArg some (by kernel_rfl))
 f240 := Tryz.func37.trans (congrArg some (by kernel_rfl))
 f276 := Tryz.func71.trans (congrArg some (by kernel_rfl))
 t0 := Tryz.underlying0, a0 := Tryz.isAgg0, z0 := Tryz.sizeOf0, v0 := Tryz.zeroValue0
 t3 := Tryz.underlying3, a3 := Tryz.isAgg3, z3 := Tryz.sizeOf3, v3 := Tryz.zeroValue3
 t4 := Tryz.underlying4, a4 := Tryz.isAgg4, z4 := Tryz.sizeOf4, v4 := Tryz.zeroValue4
 t9 := Tryz.underlying9, a9 := Tryz.isAgg9, z9 := Tryz.sizeOf9, v9 := Tryz.zeroValue9
 t20 := Tryz.underlying20, a20 := Tryz.isAgg20, z20 := Tryz.sizeOf20, v20 := Tryz.zeroValue20
 t37 := Tryz.underlying37, a37 := Tryz.isAgg37, z37 := Tryz.sizeOf37, v37 := Tryz.zeroValue37
 t70 := Tryz.underlying61, a70 := Tryz.isAgg61, z70 := Tryz.sizeOf61, v70 := Tryz.zeroValue61
 t72 := Tryz.underlying63, a72 := Tryz.isAgg63, z72 := Tryz.sizeOf63, v72 := Tryz.zeroValue63
 t75 := Tryz.underlying65, a75 := Tryz.isAgg65, z75 := Tryz.sizeOf65, v75 := Tryz.zeroValue65
 t164 := Tryz.underlying164, a164 := Tryz.isAgg164, z164 := Tryz.sizeOf164, v164 := Tryz.zeroValue164 }
theorem layY : Go.Proofs.Lays.n167 Tryz.prog layB_ren := {
 mixed := by kernel_rfl
 f167 := Tryz.func16.trans (congrArg some (by kernel_rfl))
 f240 := layS.f240, f276 := layS.f276, t0 := layS.t0, a0 := layS.a0, z0 := layS.z0, v0 := layS.v0, t4 := layS.t4, a4 := layS.a4, z4 := layS.z4, v4 := layS.v4
 t5 := Tryz.underlying5, a5 := Tryz.isAgg5, z5 := Tryz.sizeOf5, v5 := Tryz.zeroValue5
 t9 := layS.t9, a9 := layS.a9, z9 := layS.z9, v9 := layS.v9, t20 := layS.t20, a20 := layS.a20, z20 := layS.z20, v20 := layS.v20, t37 := layS.t37, a37 := layS.a37, z37 := layS.z37, v37 := layS.v37
 t70 := layS.t70, a70 := layS.a70, z70 := layS.z70, v70 := layS.v70, t72 := layS.t72, a72 := layS.a72, z72 := layS.z72, v72 := layS.v72, t75 := layS.t75, a75 := layS.a75, z75 := layS.z75, v75 := layS.v75, t164 := layS.t164, a164 := layS.a164, z164 := layS.z164, v164 := layS.v164 }
theorem layX : Builder.Extra Tryz.prog layB_ren := {
 sizeBuilder := by kernel_rfl
 liesBuilder := by kernel_rfl
 t5 := Tryz.underlying5, a5 := Tryz.isAgg5, z5 := Tryz.sizeOf5, v5 := Tryz.zeroValue5
 infoByte := by kernel_rfl
 cellsByte := by kernel_rfl
 sizeByte := by kernel_rfl
 neB5 := by decide }
abbrev Builds (B b : Nat) (l : List UInt8) (w : World) : Prop := Lib.IsBuilderF 63 5 B b (bytesV l) w
theorem wstring_any (B b : Nat) (l m : List UInt8) (w : World) (h : Builds B b l w) (hlen : l.length + m.length <= 140737488355328) (hB : B <= w.heap.size) :
  Calls Tryz.prog 14 #[.pointer (some ⟨b, 0, none⟩), .string (str m)] w fun e w' => e = .returned (.tuple #[.int .i64 m.length, .nilIface]) /\ Builds B b (l ++ m) w' /\ Below B w w' := by
 have c : Calls Tryz.prog 14 #[.pointer (some ⟨b, 0, none⟩), .string (str m)] w _ := Any.Builder_WriteString_k layS layX B b (bytesV l) (str m) w h (by show (bytesV l).length + m.length <= _; simpa [bytesV] using hlen) hB
 refine c.mono ?_
 rintro e w' ⟨he, h1, h2, _⟩
 refine ⟨he, .inr ?_, h2⟩
 have e : bytesV (l ++ m) = bytesV l ++ Lib.strCells (str m) := by rw [strCells_str]; simp [bytesV]
 rw [e]
 exact h1
theorem wbyte_any (B b : Nat) (l : List UInt8) (c : UInt8) (w : World) (h : Builds B b l w) (hlen : l.length + 1 <= 140737488355328) (hB : B <= w.heap.size) :
  Calls Tryz.prog 16 #[.pointer (some ⟨b, 0, none⟩), .int .u8 c.toNat] w fun e w' => e = .returned .nilIface /\ Builds B b (l ++ [c]) w' /\ Below B w w' := by
 have k : Calls Tryz.prog 16 #[.pointer (some ⟨b, 0, none⟩), .int .u8 c.toNat] w _ := Any.Builder_WriteByte_k layY layX B b (bytesV l) c.toNat w h (by simpa [bytesV] using hlen) hB
 refine k.mono ?_
 rintro e w' ⟨he, h1, h2, _⟩
 refine ⟨he, .inr ?_, h2⟩
 have e : bytesV (l ++ [c]) = bytesV l ++ [.int .u8 c.toNat] := by simp [bytesV]
 rw [e]
 exact h1
theorem bstring_any (B b : Nat) (l : List UInt8) (w : World) (h : Builds B b l w) (hB : B <= w.heap.size) :
  Calls Tryz.prog 17 #[.pointer (some ⟨b, 0, none⟩)] w fun e w' => e = .returned (.string (str l)) /\ Below B w w' := by
 refine (Tryz.Builder_String_any_k B b l w h hB).mono ?_
 rintro e w' ⟨he, _, h2, _⟩
 exact ⟨he, h2⟩
theorem builds_below {B b : Nat} {l : List UInt8} {w w' : World} (h : Builds B b l w) (hb : Below w.heap.size w w') : Builds B b l w' := by
 have key : ∀ p, Lib.BuilderAtF 63 5 B b p (bytesV l) w -> Lib.BuilderAtF 63 5 B b p (bytesV l) w' := by
  rintro p ⟨h1, v, h2, h3, h4⟩
  have hlt : b < w.heap.size := (Array.getElem?_eq_some_iff.1 h2).1
  refine ⟨h1, v, by rw [hb.block b hlt]; exact h2, ?_, h4⟩
  obtain ⟨h5, h6 | ⟨g, cap, cur, fz, e1, e2, e3, e4⟩⟩ := h3
  ·exact ⟨h5, .inl h6⟩
  ·exact ⟨h5, .inr ⟨g, cap, cur, fz, e1, e2, by rw [hb.block g (Array.getElem?_eq_some_iff.1 e3).1]; exact e3, e4⟩⟩
 exact h.elim (fun x => .inl (key _ x)) (fun x => .inr (key _ x))

theorem scut_any (s : ByteArray) (c : UInt8) (w : World) (hsz : s.size <= 140737488355328) : Calls Tryz.prog 45 #[.string s, .string (str [c])] w fun e w' => e = .returned (.tuple #[.string ⟨(Lib.cut s.data.toList (str [c]).data.toList).1.toArray⟩, .string ⟨(Lib.cut s.data.toList (str [c]).data.toList).2.1.toArray⟩, .bool (Lib.cut s.data.toList (str [c]).data.toList).2.2]) /\ ∃ n, w' = w.drewN n := by
 have hone : Lib.indexB s (str [c]) = Lib.indexByte s.data.toList c := Lib.index_one _ _
 have HI : Hid (∀ w, Calls Tryz.prog 75 #[.string s, .string (str [c])] w fun e w' => e = .returned (.int .i64 (Lib.indexB s (str [c]))) /\ w' = w) := fun w => by rw [hone]; exact Tryz.stringslite_Index_one s c w
 clear hone
 rcases Lib.indexB_cases s (str [c]) with hix | ⟨i, hix, hroom⟩
 ·obtain ⟨e1, e2, e3⟩ := Lib.cutB_miss s (str [c]) hix
  rw [e1, e2, e3]
  rw [hix] at HI
  clear hix e1 e2 e3
  go_enter Tryz.func45, Tryz.ntmps45
  go_wp2_with (go_at_call 75; go_must (refine (HI.out _).mono ?_); rintro e w' ⟨rfl, rfl⟩)
  go_ret3
  exact ⟨rfl, 0, rfl⟩
 ·obtain ⟨e1, e2, e3⟩ := Lib.cutB_hit s (str [c]) i hix
  rw [e1, e2, e3]
  have hroom1 : i + 1 <= s.size := hroom
  have c1 : (0 : Int) <= (i : Int) := by omega
  have c2 : (i : Int) <= (s.size : Int) := by omega
  have c3 : (0 : Int) <= (i : Int) + 1 := by omega
  have c5 : (i : Int) + 1 <= 140737488355328 := by omega
  have c4 : (i : Int) + 1 <= (s.size : Int) := by omega
  rw [hix] at HI
  clear hix e1 e2 e3 hroom
  go_enter Tryz.func45, Tryz.ntmps45
  go_wp2_with (go_at_call 75; go_must (refine (HI.out _).mono ?_); rintro e w' ⟨rfl, rfl⟩)
  go_region
  all_goals go_wp2
  all_goals go_ret3
  all_goals exact ⟨rfl, 1, rfl⟩
theorem bcut_any (s : ByteArray) (c : UInt8) (w : World) (hsz : s.size <= 140737488355328) : Calls Tryz.prog 21 #[.string s, .string (str [c])] w fun e w' => e = .returned (.tuple #[.string ⟨(Lib.cut s.data.toList (str [c]).data.toList).1.toArray⟩, .string ⟨(Lib.cut s.data.toList (str [c]).data.toList).2.1.toArray⟩, .bool (Lib.cut s.data.toList (str [c]).data.toList).2.2]) /\ ∃ n, w' = w.drewN n := by
 have HS := scut_any s c w hsz
 generalize (⟨(Lib.cut s.data.toList (str [c]).data.toList).1.toArray⟩ : ByteArray) = A at HS ⊢
 generalize (⟨(Lib.cut s.data.toList (str [c]).data.toList).2.1.toArray⟩ : ByteArray) = B at HS ⊢
 generalize (Lib.cut s.data.toList (str [c]).data.toList).2.2 = D at HS ⊢
 have HT : Hid (Calls Tryz.prog 45 #[.string s, .string (str [c])] w fun e w' => e = .returned (.tuple #[.string A, .string B, .bool D]) /\ ∃ n, w' = w.drewN n) := HS
 clear HS
 go_enter Tryz.func21, Tryz.ntmps21
 go_wp2_with (go_at_call 45; go_must (refine HT.out.mono ?_); rintro e w' ⟨rfl, n, rfl⟩)
 go_ret3
 exact ⟨rfl, n, rfl⟩
theorem cut_any (l : List UInt8) (c : UInt8) (w : World) (h : Laid w) (hl : l.length <= 140737488355328) : Calls Tryz.prog 21 #[.string (str l), .string (str [c])] w fun e w' => e = .returned (.tuple #[.string (str (cutL_l c l).1), .string (str (cutL_l c l).2.1), .bool (cutL_l c l).2.2]) /\ ∃ n, w' = w.drewN n := by
 refine (bcut_any (str l) c w hl).mono ?_
 rintro e w' ⟨he, hn⟩
 refine ⟨?_, hn⟩
 rw [he]
 show Ending.returned (.tuple #[.string ⟨(Lib.cut l [c]).1.toArray⟩, .string ⟨(Lib.cut l [c]).2.1.toArray⟩, .bool (Lib.cut l [c]).2.2]) = _
 rw [cut_eq]
theorem pre_any (l : List UInt8) (c : UInt8) (w : World) : Calls Tryz.prog 76 #[.string (str l), .string (str [c])] w fun e w' => e = .returned (.tuple #[.string (str (Lib.trimPrefix l [c])), .bool (Lib.hasPrefix l [c])]) /\ w = w' := by
 refine (Tryz.strings_CutPrefix (str l) (str [c]) w).mono ?_
 rintro e w' ⟨he, hn⟩
 exact ⟨he, hn.symm⟩
theorem format_any (n : Int) (w : World) (h : Laid w) (hn : -9223372036854775808 <= n /\ n <= 9223372036854775807) : Calls Tryz.prog 109 #[.int .i64 n, .int .i64 10] w fun e w' => e = .returned (.string (str (numL n))) /\ Below w.heap.size w w' := by
 refine (Tryz.strconv_FormatInt_10 n hn.1 hn.2 w h.2.2.1).mono ?_
 rintro e w' ⟨he, k, os, rfl⟩
 rw [num_itoa hn] at he
 exact ⟨he, rfl, rfl, rfl, by simp [Sort.grow], fun k hk => by simp [Sort.grow, Array.getElem?_append_left hk]⟩
theorem parse_any (l : List UInt8) (w : World) (h : Laid w) (hl : l.length <= 140737488355328) : Calls Tryz.prog 77 #[.string (str l), .int .i64 10, .int .i64 64] w fun e w' => (∃ n v, e = .returned (.tuple #[.int .i64 n, v]) /\ ((Lib.parseIntB 64 l = .ok n /\ v = .nilIface) ∨ ((∀ m, Lib.parseIntB 64 l ≠ .ok m) /\ ∃ tp p, v = .iface tp p))) /\ Below w.heap.size w w' := by
 obtain ⟨_, _, _, ⟨t3, p3, h3⟩, ⟨t4, p4, h4⟩, _⟩ := h
 rcases hp : Lib.parseIntB 64 l with n | _ | _
 ·refine (Tryz.strconv_ParseInt_10_at64_ok (str l) (by show l.length <= _; omega) n hp w).mono ?_
  rintro e w' ⟨he, hw⟩
  refine ⟨⟨n, _, he, .inl ⟨rfl, rfl⟩⟩, ?_⟩
  rcases hw with rfl | ⟨t, rfl⟩
  ·exact Below.refl _ _
  ·exact Lib.bytesWorld_below _ _ _
 ·refine (Tryz.strconv_ParseInt_10_at64_syntax_var (str l) (by show l.length <= _; omega) hp t3 p3 w h3).mono ?_
  rintro e w' ⟨N, he, _, _, hb⟩
  exact ⟨⟨_, _, he, .inr ⟨fun m hm => (by cases hm), _, _, rfl⟩⟩, hb⟩
 ·refine (Tryz.strconv_ParseInt_10_at64_range_var (str l) (by show l.length <= _; omega) hp t4 p4 w h4).mono ?_
  rintro e w' ⟨N, he, _, _, hb⟩
  exact ⟨⟨_, _, he, .inr ⟨fun m hm => (by cases hm), _, _, rfl⟩⟩, hb⟩
theorem lnumber_any_l (n : Int) (w : World) (h : Laid w) (hn : i64R n) : Calls Tryz.prog 73 #[.int .i64 n] w fun e w' => e = .returned (.string (str (numL n))) /\ Below w.heap.size w w' := by
 have H : Hid (Laid w) := h
 clear h
 go_enter Tryz.func73, Tryz.ntmps73
 go_wp2_with (go_at_call 109; go_must (refine (format_any n _ H.out hn).mono ?_); rintro e w1 ⟨rfl, hb1⟩)
 go_ret
 exact ⟨rfl, hb1⟩
theorem lnumber_let (n : Int) (w : World) (h : Laid w) (hn : i64R n) : Calls Tryz.prog 73 #[.int .i64 n] w fun e w' => (∃ l, e = .returned (.string (str l)) /\ Hid (l = numL n) /\ l.length <= 21) /\ Below w.heap.size w w' :=
 (lnumber_any_l n w h hn).mono fun e w' ⟨he, hb⟩ => ⟨⟨_, he, rfl, numL_len n⟩, hb⟩
theorem lregister_any (n : Int) (w : World) (h : Laid w) (hn : i64R n) : Calls Tryz.prog 72 #[.int .i64 n] w fun e w' => e = .returned (.string (str (rL n))) /\ Below w.heap.size w w' := by
 have H : Hid (Laid w) := h
 clear h
 go_enter Tryz.func72, Tryz.ntmps72
 go_wp2_with (go_at_call 73; go_must (refine (lnumber_let n _ H.out hn).mono ?_); rintro e w1 ⟨⟨l, rfl, HL, hl⟩, hb1⟩; have hs : ¬ 9223372036854775807 < 1 + l.length := by omega)
 go_ret
 refine ⟨retstr ?_, hb1⟩
 rw [rL, <- HL.out]
 exact str_app [114] l
theorem word_0 (op d a b imm : Int) (w : World) (h : Laid w) (hd : i64R d) : Calls Tryz.prog 40 #[.int .i64 0, instV op d a b imm] w fun e w' => e = .returned (.string (str (rL d))) /\ Below w.heap.size w w' := by
 have H : Hid (Laid w) := h
 clear h
 go_enter Tryz.func40, Tryz.ntmps40
 go_wp2_with (go_at_call 72; go_must (refine (lregister_any d _ (laid_keeps _ _ H.out ((Below.refl _ _).alloc (Nat.le_refl _) _)) hd).mono ?_); rintro e w1 ⟨rfl, hb1⟩)
 go_ret
 exact ⟨rfl, box_below hb1⟩
theorem word_1 (op d a b imm : Int) (w : World) (h : Laid w) (ha : i64R a) : Calls Tryz.prog 40 #[.int .i64 1, instV op d a b imm] w fun e w' => e = .returned (.string (str (rL a))) /\ Below w.heap.size w w' := by
 have H : Hid (Laid w) := h
 clear h
 go_enter Tryz.func40, Tryz.ntmps40
 go_wp2_with (go_at_call 72; go_must (refine (lregister_any a _ (laid_keeps _ _ H.out ((Below.refl _ _).alloc (Nat.le_refl _) _)) ha).mono ?_); rintro e w1 ⟨rfl, hb1⟩)
 go_ret
 exact ⟨rfl, box_below hb1⟩
theorem word_2r (op d a b imm : Int) (w : World) (h : Laid w) (hb : i64R b) (h8 : (b == 8) = false) : Calls Tryz.prog 40 #[.int .i64 2, instV op d a b imm] w fun e w' => e = .returned (.string (str (rL b))) /\ Below w.heap.size w w' := by
 have H : Hid (Laid w) := h
 clear h
 go_enter Tryz.func40, Tryz.ntmps40
 go_wp2_with (go_at_call 72; go_must (refine (lregister_any b _ (laid_keeps _ _ H.out ((Below.refl _ _).alloc (Nat.le_refl _) _)) hb).mono ?_); rintro e w1 ⟨rfl, hb1⟩)
 go_ret
 exact ⟨rfl, box_below hb1⟩
theorem word_2n (op d a imm : Int) (w : World) (h : Laid w) (hi : i64R imm) : Calls Tryz.prog 40 #[.int .i64 2, instV op d a 8 imm] w fun e w' => e = .returned (.string (str (numL imm))) /\ Below w.heap.size w w' := by
 have H : Hid (Laid w) := h
 clear h
 go_enter Tryz.func40, Tryz.ntmps40
 go_wp2_with (go_at_call 73; go_must (refine (lnumber_any_l imm _ (laid_keeps _ _ H.out ((Below.refl _ _).alloc (Nat.le_refl _) _)) hi).mono ?_); rintro e w1 ⟨rfl, hb1⟩)
 go_ret
 exact ⟨rfl, box_below hb1⟩
theorem word_3 (op d a b imm : Int) (w : World) (h : Laid w) (hd : i64R d) : Calls Tryz.prog 40 #[.int .i64 3, instV op d a b imm] w fun e w' => e = .returned (.string (str (numL d))) /\ Below w.heap.size w w' := by
 have H : Hid (Laid w) := h
 clear h
 go_enter Tryz.func40, Tryz.ntmps40
 go_wp2_with (go_at_call 73; go_must (refine (lnumber_any_l d _ (laid_keeps _ _ H.out ((Below.refl _ _).alloc (Nat.le_refl _) _)) hd).mono ?_); rintro e w1 ⟨rfl, hb1⟩)
 go_ret
 exact ⟨rfl, box_below hb1⟩
theorem word_4 (op d a b imm : Int) (w : World) (h : Laid w) (hi : i64R imm) : Calls Tryz.prog 40 #[.int .i64 4, instV op d a b imm] w fun e w' => e = .returned (.string (str (numL imm))) /\ Below w.heap.size w w' := by
 have H : Hid (Laid w) := h
 clear h
 go_enter Tryz.func40, Tryz.ntmps40
 go_wp2_with (go_at_call 73; go_must (refine (lnumber_any_l imm _ (laid_keeps _ _ H.out ((Below.refl _ _).alloc (Nat.le_refl _) _)) hi).mono ?_); rintro e w1 ⟨rfl, hb1⟩)
 go_ret
 exact ⟨rfl, box_below hb1⟩
theorem word_any (p : Int) (op d a b imm : Int) (w : World) (h : Laid w) (hp : 0 <= p /\ p <= 4) (hd : i64R d) (ha : i64R a) (hb : i64R b) (hi : i64R imm) : Calls Tryz.prog 40 #[.int .i64 p, instV op d a b imm] w fun e w' => (∃ l, e = .returned (.string (str l)) /\ Hid (l = wordL p ⟨op, d, a, b, imm⟩) /\ l.length <= 22) /\ Below w.heap.size w w' := by
 have fin : ∀ l, l = wordL p ⟨op, d, a, b, imm⟩ -> Calls Tryz.prog 40 #[.int .i64 p, instV op d a b imm] w (fun e w' => e = .returned (.string (str l)) /\ Below w.heap.size w w') -> Calls Tryz.prog 40 #[.int .i64 p, instV op d a b imm] w fun e w' => (∃ l, e = .returned (.string (str l)) /\ Hid (l = wordL p ⟨op, d, a, b, imm⟩) /\ l.length <= 22) /\ Below w.heap.size w w' := fun l hl c =>
  c.mono fun e w' ⟨he, hbe⟩ => ⟨⟨l, he, hl, by rw [hl]; exact wordL_len _ _⟩, hbe⟩
 have : p = 0 ∨ p = 1 ∨ p = 2 ∨ p = 3 ∨ p = 4 := by omega
 rcases this with rfl | rfl | rfl | rfl | rfl
 ·exact fin _ (by simp [wordL]) (word_0 op d a b imm w h hd)
 ·exact fin _ (by simp [wordL]) (word_1 op d a b imm w h ha)
 ·by_cases h8 : b = 8
  ·subst h8
   exact fin _ (by simp [wordL]) (word_2n op d a imm w h hi)
  ·exact fin _ (by simp [wordL, h8]) (word_2r op d a b imm w h hb (by simp [h8]))
 ·exact fin _ (by simp [wordL]) (word_3 op d a b imm w h hd)
 ·exact fin _ (by simp [wordL]) (word_4 op d a b imm w h hi)

abbrev partO (ps : List Int) : Obj := .cells (ps.map (Value.int .i64)).toArray 107
theorem parts_any (op : Int) (w : World) (n : Nat) (hn : n = (partsL op).length) : Calls Tryz.prog 39 #[.int .i64 op] w fun e w' => e = .returned (.slice (some ⟨w.heap.size, 0, none⟩) n n) /\ w' = w.alloc (partO (partsL op)) := by
 subst hn
 have : (op = 0 ∨ op = 11) ∨ op = 12 ∨ (op = 13 ∨ op = 14) ∨ op = 15 ∨ (op = 16 ∨ op = 17 ∨ op = 18 ∨ op = 19) ∨ op = 20 ∨ op = 21 ∨ op = 22 ∨ (op ≠ 0 /\ op ≠ 11 /\ op ≠ 12 /\ op ≠ 13 /\ op ≠ 14 /\ op ≠ 15 /\ op ≠ 16 /\ op ≠ 17 /\ op ≠ 18 /\ op ≠ 19 /\ op ≠ 20 /\ op ≠ 21 /\ op ≠ 22) := by omega
 rcases this with (rfl | rfl) | rfl | (rfl | rfl) | rfl | (rfl | rfl | rfl | rfl) | rfl | rfl | rfl | ⟨n0, n11, n12, n13, n14, n15, n16, n17, n18, n19, n20, n21, n22⟩
 case inr.inr.inr.inr.inr.inr.inr.inr =>
  have e0 : (op == 0) = false := by simp [n0]
  have e11 : (op == 11) = false := by simp [n11]
  have e12 : (op == 12) = false := by simp [n12]
  have e13 : (op == 13) = false := by simp [n13]
  have e14 : (op == 14) = false := by simp [n14]
  have e15 : (op == 15) = false := by simp [n15]
  have e16 : (op == 16) = false := by simp [n16]
  have e17 : (op == 17) = false := by simp [n17]
  have e18 : (op == 18) = false := by simp [n18]
  have e19 : (op == 19) = false := by simp [n19]
  have e20 : (op == 20) = false := by simp [n20]
  have e21 : (op == 21) = false := by simp [n21]
  have e22 : (op == 22) = false := by simp [n22]
  have HP : Hid (partsL op = [0, 1, 2]) := by show _ = _; simp [partsL, n0, n11, n12, n13, n14, n15, n16, n17, n18, n19, n20, n21, n22]
  clear n0 n11 n12 n13 n14 n15 n16 n17 n18 n19 n20 n21 n22
  go_enter Tryz.func39, Tryz.ntmps39
  go_wp2
  go_ret
  rw [HP.out]
  exact ⟨rfl, rfl⟩
 all_goals
  go_enter Tryz.func39, Tryz.ntmps39
  go_wp2
  go_ret
  exact ⟨rfl, rfl⟩
def lineW (i : In) : List (List UInt8) := nmL i.op :: (partsL i.op).map fun p => wordL p i
theorem lineW_len (i : In) : (lineW i).length = (partsL i.op).length + 1 := by simp [lineW]
theorem lineW_take {i : In} {k : Nat} {p : Int} (hk : k < (partsL i.op).length) (hp : (partsL i.op).getD k 0 = p) : (lineW i).take (k + 2) = (lineW i).take (k + 1) ++ [wordL p i] := by
 subst hp
 rw [List.take_succ_eq_append_getElem (by rw [lineW_len]; omega)]
 congr 2
 simp [lineW, List.getD, hk]
theorem own_one_str (w : World) (base : Nat) (s : List UInt8) (n : Nat) (hn : n = w.heap.size) (hb : base <= w.heap.size) : (w.alloc (.cells #[.string (str s)] 9)).ownsRow base 9 1 (.slice (some ⟨n, 0, none⟩) 1 1) 1 (strV [s]) :=
 own_lit w base 9 [.string (str s)] n hn hb (by show 1 <= maxLen; unfold maxLen; omega)
theorem heap_alloc_at (w : World) (o : Obj) (n : Nat) (hn : n = w.heap.size) : (w.alloc o).heap[n]? = some o := by subst hn; show (w.heap.push o)[w.heap.size]? = some o; exact Array.getElem?_push_size
theorem heap_keep {w : World} {o x : Obj} {n : Nat} (h : w.heap[n]? = some x) : (w.alloc o).heap[n]? = some x := by
 have := (Array.getElem?_eq_some_iff.1 h).1
 rw [Lib.alloc_old w o n this]; exact h
theorem heap_below {w w' : World} {B n : Nat} {x : Obj} (hb : Below B w w') (hB : w.heap.size <= B) (h : w.heap[n]? = some x) : w'.heap[n]? = some x := by
 have := (Array.getElem?_eq_some_iff.1 h).1
 rw [hb.block n (by omega)]; exact h
theorem part_cell {w : World} {n k : Nat} {ps : List Int} (h : w.heap[n]? = some (partO ps)) (hk : k < ps.length) : w.cell? ⟨n, k, none⟩ = some (.int .i64 (ps.getD k 0)) := by
 rw [Lib.cell_of_heap h]
 simp [List.getD, hk]
theorem box_cells {w : World} {n : Nat} {op d a b imm : Int} (h : w.heap[n]? = some (instO op d a b imm)) : Box w n op d a b imm := by
 refine ⟨?_, ?_, ?_, ?_, ?_⟩ <;> rw [Lib.cell_of_heap h] <;> rfl

set_option maxHeartbeats 1600000 in
theorem lline_any (op d a b imm : Int) (w : World) (h : Laid w) (ho : 0 <= op /\ op <= 22) (hd : i64R d) (ha : i64R a) (hb : i64R b) (himm : i64R imm) : Calls Tryz.prog 15 #[instV op d a b imm] w fun e w' => e = .returned (.string (str (lineL op d a b imm))) /\ Below w.heap.size w w' := by
 obtain ⟨i0, hi, hz0, hz1, hz2⟩ := info_parts Tryz.infoStr
 have HL : Hid (Laid w) := h
 obtain ⟨ps, HPS⟩ : ∃ ps, Hid (ps = partsL op) := ⟨_, rfl⟩
 obtain ⟨nm, HNM, hnm⟩ : ∃ nm, Hid (nm = nmL op) /\ nameF op = str nm := ⟨_, rfl, (nmL_str op).symm⟩
 have hpl : ps.length <= 3 := by rw [HPS.out]; exact partsL_len op
 obtain ⟨LW, HLW⟩ : ∃ LW, Hid (LW = lineW ⟨op, d, a, b, imm⟩) := ⟨_, rfl⟩
 have HT : Hid (∀ k p, k < ps.length -> ps.getD k 0 = p -> LW.take (k + 2) = LW.take (k + 1) ++ [wordL p ⟨op, d, a, b, imm⟩]) := by
  show ∀ k p, _ -> _ -> _
  rw [HPS.out, HLW.out]
  intro k p hk hp
  exact lineW_take (i := ⟨op, d, a, b, imm⟩) hk hp
 have HM : Hid (∀ k, k < ps.length -> 0 <= ps.getD k 0 /\ ps.getD k 0 <= 4) := by
  show ∀ k, _ -> _
  rw [HPS.out]
  intro k hk
  refine partsL_mem (op := op) ?_
  rw [List.getD_eq_getElem?_getD, List.getElem?_eq_getElem hk]
  simp
 have HONE : Hid (LW.take 1 = [nm]) := by show _ = _; rw [HLW.out, HNM.out]; rfl
 have HLEN : Hid (LW.length = ps.length + 1) := by show _ = _; rw [HLW.out, lineW_len, HPS.out]
 have HJ : Hid (Lib.join LW [32] = lineL op d a b imm) := by show _ = _; rw [HLW.out]; exact join_line (i := ⟨op, d, a, b, imm⟩) ho
 clear h
 go_enter Tryz.func15, Tryz.ntmps15
 go_wp2_with (first
  | (go_at_call 38; go_must (refine (oname_any op _ (laid_keeps _ _ HL.out ((Below.refl _ _).alloc (Nat.le_refl _) _)).2.1).mono ?_); rintro e w1 ⟨rfl, rfl⟩; rw [hnm])
  | (go_at_call 39; go_must (refine (parts_any op _ ps.length (by rw [HPS.out])).mono ?_); rintro e w1 ⟨rfl, rfl⟩; rw [<- HPS.out]))
 go_loopw [3, 14] (fun v i wr => ∃ k : Nat, k <= ps.length /\ i = .int .i64 k /\ wr.ownsRow w.heap.size 9 1 v (k + 1) (strV (LW.take (k + 1))) /\ wr.heap[w.heap.size]? = some (instO op d a b imm) /\ wr.heap[w.heap.size + 2]? = some (partO ps) /\ Below w.heap.size w wr) (fun _ i _ => ps.length - (intOf i).toNat)
 case atStart => 
  refine ⟨0, by omega, rfl, ?_, ?_, ?_, ?_⟩
  ·rw [HONE.out]
   exact (own_one_str (w.alloc (instO op d a b imm)) w.heap.size nm _ (by simp) (by simp)).alloc _
  ·exact heap_keep (heap_keep (heap_alloc_at w _ _ rfl))
  ·exact heap_alloc_at _ _ _ (by simp)
  ·exact (((Below.refl w.heap.size w).alloc (Nat.le_refl _) _).alloc (by simp) _).alloc (by simp; omega) _
 case round =>
  obtain ⟨k, hk, rfl, hown, hbx, hpt, hbe⟩ := hrel
  have hsz := hbe.size
  by_cases hlt : k < ps.length
  ·obtain ⟨p, HP⟩ : ∃ p, Hid (ps.getD k 0 = p) := ⟨_, rfl⟩
   have hc := part_cell hpt hlt
   rw [HP.out] at hc
   have hp04 := HM.out k hlt
   rw [HP.out] at hp04
   obtain ⟨c0, c1, c2, c3, c4⟩ := box_cells hbx
   have HLr : Hid (Laid wr) := laid_keeps _ _ HL.out hbe
   have HN := HT.out k p hlt HP.out
   have HN : Hid (LW.take (k + 2) = LW.take (k + 1) ++ [wordL p ⟨op, d, a, b, imm⟩]) := HN
   go_wp2_with (first
    | (go_at_call 40; go_must (refine (word_any p op d a b imm _ HLr.out hp04 hd ha hb himm).mono ?_); rintro e w4 ⟨⟨l, rfl, HWL, hl22⟩, hb4⟩; go_must (have hown4 := own_below hown hb4 (Nat.le_refl _); have hbx4 := heap_below hb4 (Nat.le_refl _) hbx; have hpt4 := heap_below hb4 (Nat.le_refl _) hpt; have hbe4 := hbe.trans (hb4.mono hsz); have hz4 := hb4.size; clear hb4 hown hbx hpt hbe c0 c1 c2 c3 c4 hc HLr))
    | (at_builtin; have hq := hown4; clear hq; go_must (refine wpList_append_own _ rfl (.tmp 18) (.tmp 22) 104 rfl w.heap.size 9 i0 (.string ⟨#[]⟩) 1 16 Tryz.underlying104 hi hz0 hz1 hz2 rfl (by decide) _ _ _ rfl (hown4.alloc _) ⟨_, 0, none⟩ 1 1 [.string (str l)] rfl rfl (one_str _ _ _ _ (by first | rfl | simp)) (one_cellS _) (by unfold maxLen; omega) (by omega) (by simp; omega) ?_); intro v5 w5 hown5 hg5 _; go_must (have hB5 := (hbe4.alloc (by omega) _).grown hg5 (by simp; omega) (fun j hj => (hown4.lt j hj).1); have hbx5 := (hg5.block _ (by simp; omega) (fun e => Lib.ownBlock_ne hown4 hbx4 (by decide) e.symm)).trans (heap_keep hbx4); have hpt5 := (hg5.block _ (by have := (Array.getElem?_eq_some_iff.1 hpt4).1; simp; omega) (fun e => Lib.ownBlock_ne hown4 hpt4 (by decide) e.symm)).trans (heap_keep hpt4); clear hg5 hown4 hbx4 hpt4 hbe4)))
   have HO : Hid (w5.ownsRow w.heap.size 9 1 v5 (k + 2) (strV (LW.take (k + 2)))) := by
    show w5.ownsRow _ _ _ _ _ _
    rw [HN.out, <- HWL.out]
    simpa [strV] using hown5
   clear hown5
   go_roundw
   case rel => exact ⟨k + 1, by omega, by go_num, HO.out, hbx5, hpt5, hB5⟩
   case measure => simp [intOf]; omega
  ·obtain rfl : k = ps.length := by omega
   rw [show LW.take (ps.length + 1) = LW by rw [<- HLEN.out]; exact List.take_length] at hown
   obtain ⟨_, ⟨_, h0⟩ | ⟨g, cap, cur, rfl, hg1, hg2, hg3, hg4, hg5, hg6⟩⟩ := hown
   ·omega
   ·have hcells : ∀ (j : Nat) x, (LW.map str)[j]? = some x -> wr.cell? ⟨g, 0 + j, none⟩ = some (.string x) := by
     intro j x hx
     rw [Lib.cell_of_heap hg2]
     have hj : j < LW.length := by have := (List.getElem?_eq_some_iff.1 hx).1; simpa using this
     have e : cur.toList[j]? = (strV LW)[j]? := by rw [<- hg6, List.getElem?_take, if_pos (by have := HLEN.out; omega)]
     simp only [strV, List.getElem?_map] at e hx ⊢
     rw [show 0 + j = j by omega]
     rw [<- Array.getElem?_toList, e]
     simp only [Option.map_eq_some_iff] at hx ⊢
     obtain ⟨y, h1, h2⟩ := hx
     exact ⟨y, h1, by rw [h2]⟩
    have HC : Hid (∀ (j : Nat) x, (LW.map str)[j]? = some x -> wr.cell? ⟨g, 0 + j, none⟩ = some (.string x)) := hcells
    have hgl : g < wr.heap.size := (Array.getElem?_eq_some_iff.1 hg2).1
    have HEN : Hid ((LW.map str).length = ps.length + 1) := by show _ = _; rw [List.length_map]; exact HLEN.out
    have HMAP : Hid ((LW.map str).map (·.data.toList) = LW) := by
     show _ = _
     have e : ((fun x : ByteArray => x.data.toList) ∘ str) = id := rfl
     rw [List.map_map, e, List.map_id]
    clear hcells hg1 hg2 hg5 hg6 hbx hpt
    have HJC : Hid (Calls Tryz.prog 41 #[.slice (some ⟨g, 0, none⟩) (ps.length + 1) cap, .string (str [32])] wr fun e w' => e = .returned (.string (str (lineL op d a b imm))) /\ Below wr.heap.size wr w') := by
     have c := Tryz.strings_Join g 0 cap (LW.map str) (str [32]) wr HC.out hgl (by rw [HEN.out]; omega) (by rw [HEN.out]; exact hg3) (by rw [HMAP.out]; show (Lib.join LW [32]).length <= _; rw [HJ.out]; have := lineL_len op d a b imm; omega)
     rw [HMAP.out, HEN.out] at c
     refine c.mono ?_
     rintro e w' ⟨he, hb'⟩
     refine ⟨?_, hb'⟩
     rw [he]
     show Ending.returned (.string ⟨(Lib.join LW [32]).toArray⟩) = _
     rw [HJ.out]
    go_wp2_with (go_at_call 41; go_must (refine HJC.out.mono ?_); rintro e w6 ⟨rfl, hb6⟩)
    go_ret
    exact ⟨rfl, hbe.trans (hb6.mono hsz)⟩
theorem parse_ok1 (l : List UInt8) (n : Int) (w : World) (h : Laid w) (hl : l.length <= 140737488355328) (hp : Lib.parseIntB 64 l = .ok n) : Calls Tryz.prog 77 #[.string (str l), .int .i64 10, .int .i64 64] w fun e w' => e = .returned (.tuple #[.int .i64 n, .nilIface]) /\ Below w.heap.size w w' := by
 refine (parse_any l w h hl).mono ?_
 rintro e w' ⟨⟨m, v, he, ⟨h1, h2⟩ | ⟨h1, _⟩⟩, hb⟩
 ·rw [hp] at h1
  injection h1 with h1
  subst h1 h2
  exact ⟨he, hb⟩
 ·exact absurd hp (h1 n)
theorem parse_bad1 (l : List UInt8) (w : World) (h : Laid w) (hl : l.length <= 140737488355328) (hp : ∀ n, Lib.parseIntB 64 l ≠ .ok n) : Calls Tryz.prog 77 #[.string (str l), .int .i64 10, .int .i64 64] w fun e w' => (∃ n tp p, e = .returned (.tuple #[.int .i64 n, .iface tp p])) /\ Below w.heap.size w w' := by
 refine (parse_any l w h hl).mono ?_
 rintro e w' ⟨⟨m, v, he, ⟨h1, h2⟩ | ⟨_, tp, p, h2⟩⟩, hb⟩
 ·exact absurd h1 (hp m)
 ·subst h2
  exact ⟨⟨m, tp, p, he⟩, hb⟩
theorem trim_len (l : List UInt8) : (Lib.trimPrefix l [114]).length <= l.length := by unfold Lib.trimPrefix; split <;> simp
theorem set_box {w : World} {b j : Nat} {cs : Array Value} {T : TypeId} (h : w.heap[b]? = some (.cells cs T (0, 0))) (v : Value) : (w.setCell ⟨b, j, none⟩ v).heap[b]? = some (.cells (cs.setIfInBounds j v) T (0, 0)) := by
 simp [World.setCell, Array.getElem?_modify, h]
theorem grown_below {w w1 : World} {b : Nat} (h : Below w.heap.size w w1) : w.grownBy w1 (some b) := ⟨h.os, h.tape, h.output, h.size, fun k hk _ => h.block k hk⟩
theorem grown_set_l {w w1 : World} {b j : Nat} (h : w.grownBy w1 (some b)) (v : Value) : w.grownBy (w1.setCell ⟨b, j, none⟩ v) (some b) :=
 ⟨h.os, h.tape, h.output, by simpa [World.setCell] using h.size, fun k hk hne => (Below.heap_setCell w1 _ _ k (fun e => hne (by simp [e]))).trans (h.block k hk hne)⟩

theorem take_bad (p : Int) (l : List UInt8) (b : Nat) (w : World) (h : Laid w) (hl : l.length <= 140737488355328) (hp : ∀ n, Lib.parseIntB 64 (Lib.trimPrefix l [114]) ≠ .ok n) : Calls Tryz.prog 47 #[.int .i64 p, .string (str l), .pointer (some ⟨b, 0, none⟩)] w fun e w' => e = .returned (.bool false) /\ w.grownBy w' (some b) := by
 have H : Hid (Laid w) := h
 have HP : Hid (∀ n, Lib.parseIntB 64 (Lib.trimPrefix l [114]) ≠ .ok n) := hp
 have hl2 : (Lib.trimPrefix l [114]).length <= 140737488355328 := Nat.le_trans (trim_len l) hl
 clear h hp
 go_enter Tryz.func47, Tryz.ntmps47
 go_wp2_with (first
  | (go_at_call 76; go_must (refine (pre_any l 114 _).mono ?_); rintro e w1 ⟨rfl, rfl⟩)
  | (go_at_call 77; go_must (refine (parse_bad1 (Lib.trimPrefix l [114]) _ H.out hl2 HP.out).mono ?_); rintro e w1 ⟨⟨n, tp, pv, rfl⟩, hb1⟩))
 go_ret
 exact ⟨rfl, grown_below hb1⟩
theorem take_D (p : Int) (hp : p = 0 ∨ p = 3) (l : List UInt8) (n : Int) (nb : Nat) (op d a b imm : Int) (w : World) (h : Laid w) (hl : l.length <= 140737488355328) (hpn : Lib.parseIntB 64 (Lib.trimPrefix l [114]) = .ok n) (hbx : w.heap[nb]? = some (instO op d a b imm)) : Calls Tryz.prog 47 #[.int .i64 p, .string (str l), .pointer (some ⟨nb, 0, none⟩)] w fun e w' => e = .returned (.bool true) /\ w'.heap[nb]? = some (instO op n a b imm) /\ w.grownBy w' (some nb) := by
 have H : Hid (Laid w) := h
 have HP : Hid (Lib.parseIntB 64 (Lib.trimPrefix l [114]) = .ok n) := hpn
 have hl2 : (Lib.trimPrefix l [114]).length <= 140737488355328 := Nat.le_trans (trim_len l) hl
 have hbs := parse_wf hpn
 clear h hpn
 rcases hp with rfl | rfl
 all_goals
  go_enter Tryz.func47, Tryz.ntmps47
  go_wp2_with (first
   | (go_at_call 76; go_must (refine (pre_any l 114 _).mono ?_); rintro e w1 ⟨rfl, rfl⟩)
   | (go_at_call 77; go_must (refine (parse_ok1 (Lib.trimPrefix l [114]) n _ H.out hl2 HP.out).mono ?_); rintro e w1 ⟨rfl, hb1⟩; go_must (have hbx1 := heap_below hb1 (Nat.le_refl _) hbx; obtain ⟨c0, c1, c2, c3, c4⟩ := box_cells hbx1; have f1 := Lib.frozen_of_heap hbx1 1)))
  go_ret
  exact ⟨rfl, set_box hbx1 _, grown_set_l (grown_below hb1) _⟩
theorem take_A (l : List UInt8) (n : Int) (nb : Nat) (op d a b imm : Int) (w : World) (h : Laid w) (hl : l.length <= 140737488355328) (hpn : Lib.parseIntB 64 (Lib.trimPrefix l [114]) = .ok n) (hbx : w.heap[nb]? = some (instO op d a b imm)) : Calls Tryz.prog 47 #[.int .i64 1, .string (str l), .pointer (some ⟨nb, 0, none⟩)] w fun e w' => e = .returned (.bool true) /\ w'.heap[nb]? = some (instO op d n b imm) /\ w.grownBy w' (some nb) := by
 have H : Hid (Laid w) := h
 have HP : Hid (Lib.parseIntB 64 (Lib.trimPrefix l [114]) = .ok n) := hpn
 have hl2 : (Lib.trimPrefix l [114]).length <= 140737488355328 := Nat.le_trans (trim_len l) hl
 have hbs := parse_wf hpn
 clear h hpn
 go_enter Tryz.func47, Tryz.ntmps47
 go_wp2_with (first
   | (go_at_call 76; go_must (refine (pre_any l 114 _).mono ?_); rintro e w1 ⟨rfl, rfl⟩)
   | (go_at_call 77; go_must (refine (parse_ok1 (Lib.trimPrefix l [114]) n _ H.out hl2 HP.out).mono ?_); rintro e w1 ⟨rfl, hb1⟩; go_must (have hbx1 := heap_below hb1 (Nat.le_refl _) hbx; obtain ⟨c0, c1, c2, c3, c4⟩ := box_cells hbx1; have f1 := Lib.frozen_of_heap hbx1 2)))
 go_ret
 exact ⟨rfl, set_box hbx1 _, grown_set_l (grown_below hb1) _⟩
theorem take_Br (l : List UInt8) (n : Int) (nb : Nat) (op d a b imm : Int) (w : World) (h : Laid w) (hl : l.length <= 140737488355328) (hpn : Lib.parseIntB 64 (Lib.trimPrefix l [114]) = .ok n) (hr : Lib.hasPrefix l [114] = true) (hbx : w.heap[nb]? = some (instO op d a b imm)) : Calls Tryz.prog 47 #[.int .i64 2, .string (str l), .pointer (some ⟨nb, 0, none⟩)] w fun e w' => e = .returned (.bool true) /\ w'.heap[nb]? = some (instO op d a n imm) /\ w.grownBy w' (some nb) := by
 have H : Hid (Laid w) := h
 have HP : Hid (Lib.parseIntB 64 (Lib.trimPrefix l [114]) = .ok n) := hpn
 have hl2 : (Lib.trimPrefix l [114]).length <= 140737488355328 := Nat.le_trans (trim_len l) hl
 have hbs := parse_wf hpn
 clear h hpn
 go_enter Tryz.func47, Tryz.ntmps47
 go_wp2_with (first
   | (go_at_call 76; go_must (refine (pre_any l 114 _).mono ?_); rintro e w1 ⟨rfl, rfl⟩; rw [hr])
   | (go_at_call 77; go_must (refine (parse_ok1 (Lib.trimPrefix l [114]) n _ H.out hl2 HP.out).mono ?_); rintro e w1 ⟨rfl, hb1⟩; go_must (have hbx1 := heap_below hb1 (Nat.le_refl _) hbx; obtain ⟨c0, c1, c2, c3, c4⟩ := box_cells hbx1; have f1 := Lib.frozen_of_heap hbx1 3)))
 go_ret
 exact ⟨rfl, set_box hbx1 _, grown_set_l (grown_below hb1) _⟩
theorem take_Bn (l : List UInt8) (n : Int) (nb : Nat) (op d a b imm : Int) (w : World) (h : Laid w) (hl : l.length <= 140737488355328) (hpn : Lib.parseIntB 64 (Lib.trimPrefix l [114]) = .ok n) (hr : Lib.hasPrefix l [114] = false) (hbx : w.heap[nb]? = some (instO op d a b imm)) : Calls Tryz.prog 47 #[.int .i64 2, .string (str l), .pointer (some ⟨nb, 0, none⟩)] w fun e w' => e = .returned (.bool true) /\ w'.heap[nb]? = some (instO op d a 8 n) /\ w.grownBy w' (some nb) := by
 have H : Hid (Laid w) := h
 have HP : Hid (Lib.parseIntB 64 (Lib.trimPrefix l [114]) = .ok n) := hpn
 have hl2 : (Lib.trimPrefix l [114]).length <= 140737488355328 := Nat.le_trans (trim_len l) hl
 have hbs := parse_wf hpn
 clear h hpn
 go_enter Tryz.func47, Tryz.ntmps47
 go_wp2_with (first
   | (go_at_call 76; go_must (refine (pre_any l 114 _).mono ?_); rintro e w1 ⟨rfl, rfl⟩; rw [hr])
   | (go_at_call 77; go_must (refine (parse_ok1 (Lib.trimPrefix l [114]) n _ H.out hl2 HP.out).mono ?_); rintro e w1 ⟨rfl, hb1⟩; go_must (have hbx1 := heap_below hb1 (Nat.le_refl _) hbx; obtain ⟨c0, c1, c2, c3, c4⟩ := box_cells hbx1; have f1 := Lib.frozen_of_heap hbx1 3; have f2 := Lib.frozen_of_heap hbx1 4)))
 go_ret
 exact ⟨rfl, set_box (set_box hbx1 _) _, grown_set_l (grown_set_l (grown_below hb1) _) _⟩
theorem take_I (l : List UInt8) (n : Int) (nb : Nat) (op d a b imm : Int) (w : World) (h : Laid w) (hl : l.length <= 140737488355328) (hpn : Lib.parseIntB 64 (Lib.trimPrefix l [114]) = .ok n) (hbx : w.heap[nb]? = some (instO op d a b imm)) : Calls Tryz.prog 47 #[.int .i64 4, .string (str l), .pointer (some ⟨nb, 0, none⟩)] w fun e w' => e = .returned (.bool true) /\ w'.heap[nb]? = some (instO op d a b n) /\ w.grownBy w' (some nb) := by
 have H : Hid (Laid w) := h
 have HP : Hid (Lib.parseIntB 64 (Lib.trimPrefix l [114]) = .ok n) := hpn
 have hl2 : (Lib.trimPrefix l [114]).length <= 140737488355328 := Nat.le_trans (trim_len l) hl
 have hbs := parse_wf hpn
 clear h hpn
 go_enter Tryz.func47, Tryz.ntmps47
 go_wp2_with (first
   | (go_at_call 76; go_must (refine (pre_any l 114 _).mono ?_); rintro e w1 ⟨rfl, rfl⟩)
   | (go_at_call 77; go_must (refine (parse_ok1 (Lib.trimPrefix l [114]) n _ H.out hl2 HP.out).mono ?_); rintro e w1 ⟨rfl, hb1⟩; go_must (have hbx1 := heap_below hb1 (Nat.le_refl _) hbx; obtain ⟨c0, c1, c2, c3, c4⟩ := box_cells hbx1; have f1 := Lib.frozen_of_heap hbx1 4)))
 go_ret
 exact ⟨rfl, set_box hbx1 _, grown_set_l (grown_below hb1) _⟩
abbrev In.box (i : In) : Obj := instO i.op i.d i.a i.b i.imm
theorem take_some (p : Int) (l : List UInt8) (nb : Nat) (i j : In) (w : World) (h : Laid w) (hp : 0 <= p /\ p <= 4) (hl : l.length <= 140737488355328) (hbx : w.heap[nb]? = some i.box) (ht : takeL p l i = some j) : Calls Tryz.prog 47 #[.int .i64 p, .string (str l), .pointer (some ⟨nb, 0, none⟩)] w fun e w' => e = .returned (.bool true) /\ w'.heap[nb]? = some j.box /\ w.grownBy w' (some nb) := by
 unfold takeL at ht
 split at ht
 ·rename_i n hn
  injection ht with ht
  subst ht
  obtain ⟨op, d, a, b, imm⟩ := i
  have : p = 0 ∨ p = 1 ∨ p = 2 ∨ p = 3 ∨ p = 4 := by omega
  rcases this with rfl | rfl | rfl | rfl | rfl
  ·exact take_D 0 (.inl rfl) l n nb op d a b imm w h hl hn hbx
  ·exact take_A l n nb op d a b imm w h hl hn hbx
  ·cases hr : Lib.hasPrefix l [114]
   ·exact take_Bn l n nb op d a b imm w h hl hn hr hbx
   ·exact take_Br l n nb op d a b imm w h hl hn hr hbx
  ·exact take_D 3 (.inr rfl) l n nb op d a b imm w h hl hn hbx
  ·exact take_I l n nb op d a b imm w h hl hn hbx
 ·cases ht
 ·cases ht
theorem take_none (p : Int) (l : List UInt8) (nb : Nat) (i : In) (w : World) (h : Laid w) (hl : l.length <= 140737488355328) (ht : takeL p l i = none) : Calls Tryz.prog 47 #[.int .i64 p, .string (str l), .pointer (some ⟨nb, 0, none⟩)] w fun e w' => e = .returned (.bool false) /\ w.grownBy w' (some nb) := by
 refine take_bad p l nb w h hl fun n hn => ?_
 unfold takeL at ht
 rw [hn] at ht
 cases ht
end Go.Proofs.YtiheafdphgllkaaGreatDoor
