/-
  The library's functions that the project's lines call, in our words: strings.Cut at a byte, strings.CutPrefix, strconv.FormatInt, strconv.ParseInt, strings.Builder. Conditions: the listed variables read as they are laid; lengths within the model's bounds.
-/
import Derived.Test.YteccmagbebghaaaDoorShelf
import Derived.Test.YteccmagbebghaaaDoorL3World
import Derived.Test.YteccmagbebghaaaDoorL3Loose
import Derived.Lib.AtoiErrMem
namespace Go.Proofs.YteccmagbebghaaaDoor
open Go.RowKit
set_option linter.unusedVariables false
set_option maxRecDepth 100000

def layB_ren : Go.Shelf.Ren := ⟨fun | 166 => 16 | 167 => 18 | 240 => 28 | 276 => 49 | n => n, fun | 9 => 9 | 3 => 3 | 4 => 4 | 0 => 0 | 20 => 20 | 72 => 45 | 70 => 42 | 37 => 43 | 75 => 47 | 164 => 87 | 5 => 5 | 80 => 52 | n => n, fun | n => n⟩
theorem layS : Go.Proofs.Lays.n166 Tryd.prog layB_ren := {
  mixed := by kernel_rfl
  f166 := Tryd.func16.trans (congrArg some (by kernel_rfl))
  f240 := Tryd.func28.trans (congrArg some (by kernel_rfl))
  f276 := Tryd.func49.trans (congrArg some (by kernel_rfl))
  t0 := Tryd.underlying0, a0 := Tryd.isAgg0, z0 := Tryd.sizeOf0, v0 := Tryd.zeroValue0
  t3 := Tryd.underlying3, a3 := Tryd.isAgg3, z3 := Tryd.sizeOf3, v3 := Tryd.zeroValue3
  t4 := Tryd.underlying4, a4 := Tryd.isAgg4, z4 := Tryd.sizeOf4, v4 := Tryd.zeroValue4
  t9 := Tryd.underlying9, a9 := Tryd.isAgg9, z9 := Tryd.sizeOf9, v9 := Tryd.zeroValue9
  t20 := Tryd.underlying20, a20 := Tryd.isAgg20, z20 := Tryd.sizeOf20, v20 := Tryd.zeroValue20
  t37 := Tryd.underlying43, a37 := Tryd.isAgg43, z37 := Tryd.sizeOf43, v37 := Tryd.zeroValue43
  t70 := Tryd.underlying42, a70 := Tryd.isAgg42, z70 := Tryd.sizeOf42, v70 := Tryd.zeroValue42
  t72 := Tryd.underlying45, a72 := Tryd.isAgg45, z72 := Tryd.sizeOf45, v72 := Tryd.zeroValue45
  t75 := Tryd.underlying47, a75 := Tryd.isAgg47, z75 := Tryd.sizeOf47, v75 := Tryd.zeroValue47
  t164 := Tryd.underlying87, a164 := Tryd.isAgg87, z164 := Tryd.sizeOf87, v164 := Tryd.zeroValue87 }
theorem layY : Go.Proofs.Lays.n167 Tryd.prog layB_ren := {
  mixed := by kernel_rfl
  f167 := Tryd.func18.trans (congrArg some (by kernel_rfl))
  f240 := layS.f240, f276 := layS.f276, t0 := layS.t0, a0 := layS.a0, z0 := layS.z0, v0 := layS.v0, t4 := layS.t4, a4 := layS.a4, z4 := layS.z4, v4 := layS.v4
  t5 := Tryd.underlying5, a5 := Tryd.isAgg5, z5 := Tryd.sizeOf5, v5 := Tryd.zeroValue5
  t9 := layS.t9, a9 := layS.a9, z9 := layS.z9, v9 := layS.v9, t20 := layS.t20, a20 := layS.a20, z20 := layS.z20, v20 := layS.v20, t37 := layS.t37, a37 := layS.a37, z37 := layS.z37, v37 := layS.v37
  t70 := layS.t70, a70 := layS.a70, z70 := layS.z70, v70 := layS.v70, t72 := layS.t72, a72 := layS.a72, z72 := layS.z72, v72 := layS.v72, t75 := layS.t75, a75 := layS.a75, z75 := layS.z75, v75 := layS.v75, t164 := layS.t164, a164 := layS.a164, z164 := layS.z164, v164 := layS.v164 }
theorem layX : Builder.Extra Tryd.prog layB_ren := {
  sizeBuilder := by kernel_rfl
  liesBuilder := by kernel_rfl
  t5 := Tryd.underlying5, a5 := Tryd.isAgg5, z5 := Tryd.sizeOf5, v5 := Tryd.zeroValue5
  infoByte := by kernel_rfl
  cellsByte := by kernel_rfl
  sizeByte := by kernel_rfl
  neB5 := by decide }
/-- A builder of our own that holds these bytes. -/
abbrev Builds (B b : Nat) (l : List UInt8) (w : World) : Prop := Lib.IsBuilderF 45 5 B b (bytesV l) w
theorem builds_at {B b : Nat} {l : List UInt8} {w : World} (h : Builds B b l w) : B ≤ b ∧ b < w.heap.size := by
  rcases h with h | h
  · exact ⟨h.1, h.lt⟩
  · exact ⟨h.1, h.lt⟩
theorem wstring_any (B b : Nat) (l m : List UInt8) (w : World) (h : Builds B b l w) (hlen : l.length + m.length ≤ 140737488355328) (hB : B ≤ w.heap.size) :
    Calls Tryd.prog 16 #[.pointer (some ⟨b, 0, none⟩), .string (str m)] w fun e w' => e = .returned (.tuple #[.int .i64 m.length, .nilIface]) ∧ Builds B b (l ++ m) w' ∧ Below B w w' := by
  have c : Calls Tryd.prog 16 #[.pointer (some ⟨b, 0, none⟩), .string (str m)] w _ := Any.Builder_WriteString_k layS layX B b (bytesV l) (str m) w h (by show (bytesV l).length + m.length ≤ _; simpa [bytesV] using hlen) hB
  refine c.mono ?_
  rintro e w' ⟨he, h1, h2, _⟩
  refine ⟨he, .inr ?_, h2⟩
  have e : bytesV (l ++ m) = bytesV l ++ Lib.strCells (str m) := by rw [strCells_str]; simp [bytesV]
  rw [e]
  exact h1
theorem wbyte_any (B b : Nat) (l : List UInt8) (c : UInt8) (w : World) (h : Builds B b l w) (hlen : l.length + 1 ≤ 140737488355328) (hB : B ≤ w.heap.size) :
    Calls Tryd.prog 18 #[.pointer (some ⟨b, 0, none⟩), .int .u8 c.toNat] w fun e w' => e = .returned .nilIface ∧ Builds B b (l ++ [c]) w' ∧ Below B w w' := by
  have k : Calls Tryd.prog 18 #[.pointer (some ⟨b, 0, none⟩), .int .u8 c.toNat] w _ := Any.Builder_WriteByte_k layY layX B b (bytesV l) c.toNat w h (by simpa [bytesV] using hlen) hB
  refine k.mono ?_
  rintro e w' ⟨he, h1, h2, _⟩
  refine ⟨he, .inr ?_, h2⟩
  have e : bytesV (l ++ [c]) = bytesV l ++ [.int .u8 c.toNat] := by simp [bytesV]
  rw [e]
  exact h1
theorem bstring_any (B b : Nat) (l : List UInt8) (w : World) (h : Builds B b l w) (hB : B ≤ w.heap.size) :
    Calls Tryd.prog 19 #[.pointer (some ⟨b, 0, none⟩)] w fun e w' => e = .returned (.string (str l)) ∧ Below B w w' := by
  refine (Tryd.Builder_String_any_k B b l w h hB).mono ?_
  rintro e w' ⟨he, _, h2, _⟩
  exact ⟨he, h2⟩
theorem builds_below {B b : Nat} {l : List UInt8} {w w' : World} (h : Builds B b l w) (hb : Below w.heap.size w w') : Builds B b l w' := by
  have key : ∀ p, Lib.BuilderAtF 45 5 B b p (bytesV l) w → Lib.BuilderAtF 45 5 B b p (bytesV l) w' := by
    rintro p ⟨h1, v, h2, h3, h4⟩
    have hlt : b < w.heap.size := (Array.getElem?_eq_some_iff.1 h2).1
    refine ⟨h1, v, by rw [hb.block b hlt]; exact h2, ?_, h4⟩
    obtain ⟨h5, h6 | ⟨g, cap, cur, fz, e1, e2, e3, e4⟩⟩ := h3
    · exact ⟨h5, .inl h6⟩
    · exact ⟨h5, .inr ⟨g, cap, cur, fz, e1, e2, by rw [hb.block g (Array.getElem?_eq_some_iff.1 e3).1]; exact e3, e4⟩⟩
  exact h.elim (fun x => .inl (key _ x)) (fun x => .inr (key _ x))

/-- Cut at one byte: as great a text as there may be (the shelf's own contract bears a lesser bound, for separators of several bytes). -/
theorem scut_any (s : ByteArray) (c : UInt8) (w : World) (hsz : s.size ≤ 140737488355328) : Calls Tryd.prog 41 #[.string s, .string (str [c])] w fun e w' => e = .returned (.tuple #[.string ⟨(Lib.cut s.data.toList (str [c]).data.toList).1.toArray⟩, .string ⟨(Lib.cut s.data.toList (str [c]).data.toList).2.1.toArray⟩, .bool (Lib.cut s.data.toList (str [c]).data.toList).2.2]) ∧ ∃ n, w' = w.drewN n := by
  have hone : Lib.indexB s (str [c]) = Lib.indexByte s.data.toList c := Lib.index_one _ _
  have HI : Hid (∀ w, Calls Tryd.prog 54 #[.string s, .string (str [c])] w fun e w' => e = .returned (.int .i64 (Lib.indexB s (str [c]))) ∧ w' = w) := fun w => by rw [hone]; exact Tryd.stringslite_Index_one s c w
  clear hone
  rcases Lib.indexB_cases s (str [c]) with hix | ⟨i, hix, hroom⟩
  · obtain ⟨e1, e2, e3⟩ := Lib.cutB_miss s (str [c]) hix
    rw [e1, e2, e3]
    rw [hix] at HI
    clear hix e1 e2 e3
    go_enter Tryd.func41, Tryd.ntmps41
    go_wp2_with (go_at_call 54; go_must (refine (HI.out _).mono ?_); rintro e w' ⟨rfl, rfl⟩)
    go_ret3
    exact ⟨rfl, 0, rfl⟩
  · obtain ⟨e1, e2, e3⟩ := Lib.cutB_hit s (str [c]) i hix
    rw [e1, e2, e3]
    have hroom1 : i + 1 ≤ s.size := hroom
    have c1 : (0 : Int) ≤ (i : Int) := by omega
    have c2 : (i : Int) ≤ (s.size : Int) := by omega
    have c3 : (0 : Int) ≤ (i : Int) + 1 := by omega
    have c5 : (i : Int) + 1 ≤ 140737488355328 := by omega
    have c4 : (i : Int) + 1 ≤ (s.size : Int) := by omega
    rw [hix] at HI
    clear hix e1 e2 e3 hroom
    go_enter Tryd.func41, Tryd.ntmps41
    go_wp2_with (go_at_call 54; go_must (refine (HI.out _).mono ?_); rintro e w' ⟨rfl, rfl⟩)
    go_region
    all_goals go_wp2
    all_goals go_ret3
    all_goals exact ⟨rfl, 1, rfl⟩
theorem bcut_any (s : ByteArray) (c : UInt8) (w : World) (hsz : s.size ≤ 140737488355328) : Calls Tryd.prog 22 #[.string s, .string (str [c])] w fun e w' => e = .returned (.tuple #[.string ⟨(Lib.cut s.data.toList (str [c]).data.toList).1.toArray⟩, .string ⟨(Lib.cut s.data.toList (str [c]).data.toList).2.1.toArray⟩, .bool (Lib.cut s.data.toList (str [c]).data.toList).2.2]) ∧ ∃ n, w' = w.drewN n := by
  have HS := scut_any s c w hsz
  generalize (⟨(Lib.cut s.data.toList (str [c]).data.toList).1.toArray⟩ : ByteArray) = A at HS ⊢
  generalize (⟨(Lib.cut s.data.toList (str [c]).data.toList).2.1.toArray⟩ : ByteArray) = B at HS ⊢
  generalize (Lib.cut s.data.toList (str [c]).data.toList).2.2 = D at HS ⊢
  have HT : Hid (Calls Tryd.prog 41 #[.string s, .string (str [c])] w fun e w' => e = .returned (.tuple #[.string A, .string B, .bool D]) ∧ ∃ n, w' = w.drewN n) := HS
  clear HS
  go_enter Tryd.func22, Tryd.ntmps22
  go_wp2_with (go_at_call 41; go_must (refine HT.out.mono ?_); rintro e w' ⟨rfl, n, rfl⟩)
  go_ret3
  exact ⟨rfl, n, rfl⟩
theorem cut_any (l : List UInt8) (c : UInt8) (w : World) (h : Laid w) (hl : l.length ≤ 140737488355328) : Calls Tryd.prog 22 #[.string (str l), .string (str [c])] w fun e w' => e = .returned (.tuple #[.string (str (cutL c l).1), .string (str (cutL c l).2.1), .bool (cutL c l).2.2]) ∧ ∃ n, w' = w.drewN n := by
  refine (bcut_any (str l) c w hl).mono ?_
  rintro e w' ⟨he, hn⟩
  refine ⟨?_, hn⟩
  rw [he]
  show Ending.returned (.tuple #[.string ⟨(Lib.cut l [c]).1.toArray⟩, .string ⟨(Lib.cut l [c]).2.1.toArray⟩, .bool (Lib.cut l [c]).2.2]) = _
  rw [cut_eq]
theorem pre_any (l : List UInt8) (c : UInt8) (w : World) : Calls Tryd.prog 55 #[.string (str l), .string (str [c])] w fun e w' => e = .returned (.tuple #[.string (str (Lib.trimPrefix l [c])), .bool (Lib.hasPrefix l [c])]) ∧ w = w' := by
  refine (Tryd.strings_CutPrefix (str l) (str [c]) w).mono ?_
  rintro e w' ⟨he, hn⟩
  exact ⟨he, hn.symm⟩
theorem format_any (n : Int) (w : World) (h : Laid w) (hn : -9223372036854775808 ≤ n ∧ n ≤ 9223372036854775807) : Calls Tryd.prog 57 #[.int .i64 n, .int .i64 10] w fun e w' => e = .returned (.string (str (numL n))) ∧ Below w.heap.size w w' := by
  refine (Tryd.strconv_FormatInt_10 n hn.1 hn.2 w h.2.2.1).mono ?_
  rintro e w' ⟨he, k, os, rfl⟩
  rw [num_itoa hn] at he
  exact ⟨he, rfl, rfl, rfl, by simp [Sort.grow], fun k hk => by simp [Sort.grow, Array.getElem?_append_left hk]⟩
theorem parse_any (l : List UInt8) (w : World) (h : Laid w) (hl : l.length ≤ 140737488355328) : Calls Tryd.prog 56 #[.string (str l), .int .i64 10, .int .i64 64] w fun e w' => (∃ n v, e = .returned (.tuple #[.int .i64 n, v]) ∧ ((Lib.parseIntB 64 l = .ok n ∧ v = .nilIface) ∨ ((∀ m, Lib.parseIntB 64 l ≠ .ok m) ∧ ∃ tp p, v = .iface tp p))) ∧ Below w.heap.size w w' := by
  obtain ⟨_, _, _, ⟨t3, p3, h3⟩, ⟨t4, p4, h4⟩, _⟩ := h
  rcases hp : Lib.parseIntB 64 l with n | _ | _
  · refine (Tryd.strconv_ParseInt_10_at64_ok (str l) (by show l.length ≤ _; omega) n hp w).mono ?_
    rintro e w' ⟨he, hw⟩
    refine ⟨⟨n, _, he, .inl ⟨rfl, rfl⟩⟩, ?_⟩
    rcases hw with rfl | ⟨t, rfl⟩
    · exact Below.refl _ _
    · exact Lib.bytesWorld_below _ _ _
  · refine (Tryd.strconv_ParseInt_10_at64_syntax_var (str l) (by show l.length ≤ _; omega) hp t3 p3 w h3).mono ?_
    rintro e w' ⟨N, he, _, _, hb⟩
    exact ⟨⟨_, _, he, .inr ⟨fun m hm => (by cases hm), _, _, rfl⟩⟩, hb⟩
  · refine (Tryd.strconv_ParseInt_10_at64_range_var (str l) (by show l.length ≤ _; omega) hp t4 p4 w h4).mono ?_
    rintro e w' ⟨N, he, _, _, hb⟩
    exact ⟨⟨_, _, he, .inr ⟨fun m hm => (by cases hm), _, _, rfl⟩⟩, hb⟩
end Go.Proofs.YteccmagbebghaaaDoor
