/-
  The law's own look at the document's examples: it comes out true. Besides: what Encode answers, in one; bytes as a string; the document's module. No condition.
-/
import Derived.Test.YtbpjcppgnndaaaaW4Encode
import Derived.Laws.BytesString
namespace Go.Proofs.Ytbpjcppgnndaaaa
open Go.RowKit
set_option linter.unusedVariables false
set_option maxRecDepth 100000

/-- Encode. -/
theorem encode_any (vm vc : Value) (ms : List Int) (is : List In) (w : World) (h : SeesM w vm vc ms is) :
    Calls Try.prog 11 #[modV vm vc] w fun e w' => ∃ v, e = .returned (.tuple #[v, .int .i64 (encL ms is).2]) ∧ w'.ownsRow w.heap.size 5 1 v (encL ms is).1.length ((encL ms is).1.map (Value.int .u8)) ∧ Below w.heap.size w w' := by
  cases hf : formedB ms is with
  | true =>
    have e : encL ms is = (modE ms is, 0) := by unfold encL; rw [if_pos hf]
    rw [e]
    exact encode_ok vm vc ms is w h hf
  | false =>
    have e : encL ms is = ([], 2) := by unfold encL; rw [if_neg (by rw [hf]; simp)]
    rw [e]
    exact (encode_bad vm vc ms is w h hf).mono fun x w' ⟨h1, h2⟩ => ⟨_, h1, World.ownsRow_nil _ _ _ _, h2⟩
theorem encL_byte {ms : List Int} {is : List In} (hw : ∀ i ∈ is, i.wf) : ∀ x ∈ (encL ms is).1, 0 ≤ x ∧ x ≤ 255 := by
  unfold encL
  split
  · exact modE_byte ‹_› hw
  · simp
theorem encL_len (ms : List Int) (is : List In) : (encL ms is).1.length ≤ 4096 := by
  unfold encL
  split
  · exact modE_len ‹_›
  · simp

/-- Bytes as a string. -/
def strI (bs : List Int) : ByteArray := ⟨(bs.map fun n => UInt8.ofNat n.toNat).toArray⟩
theorem byte_back {n : Int} (h0 : 0 ≤ n) (h1 : n ≤ 255) : ((UInt8.ofNat n.toNat).toNat : Int) = n := by
  have : n.toNat < 256 := by omega
  simp [Nat.mod_eq_of_lt this]
  omega
theorem run_string {src dst e : TypeId} {w : World} {v : Value} {bs : List Int} (hs : Try.prog.underlying src = some (.slice e)) (he : Try.prog.underlying e = some (.int .u8)) (hd : Try.prog.underlying dst = some .string) (h : Sees .u8 w v bs) : (convert src dst v).run Try.prog w = .ok (.string (strI bs)) w := by
  have hb := h.bytes
  obtain ⟨a, cap, rfl, hl, hm, hn0, hw, hsee⟩ := h
  cases a with
  | none =>
    obtain rfl : cap = 0 := hn0 rfl
    obtain rfl : bs = [] := List.eq_nil_of_length_eq_zero (by omega)
    show (convert src dst (.slice none 0 0)).run Try.prog w = _
    rw [run_convert_bytes_string w src dst e none 0 0 hs he hd]
    rfl
  | some ad =>
    have key := run_convert_bytes_back w src dst e ad cap (bs.map fun n => UInt8.ofNat n.toNat) hs he hd (fun j hj => by
      have hj' : j < bs.length := by simpa using hj
      obtain ⟨b, off, hab, _, hc⟩ := hsee (fun e => by subst e; simp at hj')
      injection hab with hab
      subst hab
      have h1 := hb _ (getD_mem bs j hj')
      rw [add_none, hc j hj']
      have e1 : bs.getD j 0 = bs[j] := by simp [List.getD, hj']
      rw [e1] at h1 ⊢
      rw [List.getElem_map, byte_back h1.1 h1.2])
    rw [List.length_map] at key
    exact key
/-- The document's module. -/
def smallIs : List In := [⟨0, 0, 0, 8, 5⟩, ⟨22, 0, 0, 0, 0⟩]
theorem small_enc : encL [2] smallIs = ([84, 80, 1, 1, 2, 2, 0, 0, 0, 8, 10, 22, 0, 0, 0, 0], 0) := by decide
theorem small_dec : decL [84, 80, 1, 1, 2, 2, 0, 0, 0, 8, 10, 22, 0, 0, 0, 0] = (([2], smallIs), 0, 0) := by kernel_rfl
theorem small_wf : ∀ i ∈ smallIs, i.wf := by intro i hi; simp [smallIs] at hi; rcases hi with rfl | rfl <;> exact ⟨rfl, rfl, rfl, rfl, rfl⟩

theorem sees_two (w : World) (t : TypeId) (i j : In) (n : Nat) (hn : n = w.heap.size) : SeesI (w.alloc (.cells #[.int .i64 i.op, .int .i64 i.d, .int .i64 i.a, .int .i64 i.b, .int .i64 i.imm, .int .i64 j.op, .int .i64 j.d, .int .i64 j.a, .int .i64 j.b, .int .i64 j.imm] t)) (.slice (some ⟨n, 0, none⟩) 2 2) [i, j] := by
  subst hn
  refine ⟨_, 2, rfl, by simp, by simp [maxLen], fun h => by simp at h, fun _ => ⟨w.heap.size, 0, rfl, by simp, fun k hk => ?_⟩⟩
  have hk : k = 0 ∨ k = 1 := by simp at hk; omega
  rcases hk with rfl | rfl
  · refine ⟨?_, ?_, ?_, ?_, ?_⟩ <;> simp
  · refine ⟨?_, ?_, ?_, ?_, ?_⟩ <;> simp

set_option maxHeartbeats 800000 in
theorem small_any (w : World) : Calls Try.prog 17 #[] w fun e w' => ∃ vm vc, e = .returned (modV vm vc) ∧ SeesM w' vm vc [2] smallIs ∧ Below w.heap.size w w' := by
  go_enter Try.func17, Try.ntmps17
  go_wp2_with fail
  have hm := ((MdC.new w (.slice (some ⟨w.heap.size + 1, 0, none⟩) 1 1) (.slice (some ⟨w.heap.size + 1 + 1, 0, none⟩) 2 2)).kept (grown_alloc _ (.cells #[.int .i64 2] 3) none) (by simp)).kept (grown_alloc _ (.cells #[.int .i64 0, .int .i64 0, .int .i64 0, .int .i64 8, .int .i64 5, .int .i64 22, .int .i64 0, .int .i64 0, .int .i64 0, .int .i64 0] 45) none) (by simp)
  refine bodyPost_ret (results_cell_row rfl _ _ w.heap.size _ _ (0, 0) _ rfl hm Try.underlying25 rfl (by kernel_rfl)) rfl ?_
  refine ⟨_, _, rfl, ⟨?_, ?_, small_wf⟩, (((Below.refl _ _).alloc (Nat.le_refl _) _).alloc (by simp) _).alloc (by simp; omega) _⟩
  · have h1 := Sees.lit (w.alloc (.cells #[.slice (some ⟨w.heap.size + 1, 0, none⟩) 1 1, .slice (some ⟨w.heap.size + 1 + 1, 0, none⟩) 2 2] 25)) .i64 3 [2] #[.int .i64 2] 1 rfl rfl (by simp) (by intro x hx; simp at hx; subst hx; rfl)
    rw [World.size_alloc] at h1
    exact h1.below (below_alloc _ _) (Nat.le_refl _)
  · exact sees_two _ 45 ⟨0, 0, 0, 8, 5⟩ ⟨22, 0, 0, 0, 0⟩ _ (by simp)
theorem own_two {w : World} {base : Nat} {e : TypeId} {v : Value} {i j : In} (h : w.ownsRow base e 5 v 2 (flat [i, j])) : ∃ b off cap, v = .slice (some ⟨b, off, none⟩) 2 cap ∧ 2 ≤ cap ∧ cap ≤ 9223372036854775807 ∧ b < w.heap.size ∧ At w b off i := by
  obtain ⟨a, cap, rfl, h1, h2, h3, h4⟩ := own_seesI (xs := [i, j]) h
  obtain ⟨b, off, rfl, hlt, hc⟩ := h4 (by simp)
  unfold maxLen at h2
  have := hc 0 (by simp)
  exact ⟨b, off, cap, rfl, by simpa using h1, by omega, hlt, by simpa using this⟩
theorem small_str : strI [84, 80, 1, 1, 2, 2, 0, 0, 0, 8, 10, 22, 0, 0, 0, 0] = { data := #[84, 80, 1, 1, 2, 2, 0, 0, 0, 8, 10, 22, 0, 0, 0, 0] } := by kernel_rfl

set_option maxHeartbeats 1600000 in
theorem awake_any (w : World) : Calls Try.prog 9 #[] w fun e w' => e = .returned (.bool true) ∧ Below w.heap.size w w' := by
  go_enter Try.func9, Try.ntmps9
  go_wp2_with (first
    | (go_at_call 17; go_must (refine (small_any _).mono ?_); rintro e w1 ⟨vm, vc, rfl, hs1, hb1⟩; have HS1 := keepH hs1; clear hs1)
    | (go_at_call 11; go_must (refine (encode_any vm vc [2] smallIs _ HS1.out).mono ?_); rintro e w2 ⟨v2, rfl, ho2, hb2⟩; rw [small_enc] at ho2 ⊢; go_must (have hs2 : Sees .u8 w2 v2 [84, 80, 1, 1, 2, 2, 0, 0, 0, 8, 10, 22, 0, 0, 0, 0] := Sees.own ho2 (by decide); have hB2 := hb1.trans (hb2.mono hb1.size); clear hb1 hb2 ho2; obtain ⟨a2, c2, hv2⟩ := hs2.shape; subst hv2; have HS2 := keepH hs2; clear hs2))
    | (go_at_call 14; go_must (refine (decode_any _ _ _ HS2.out).mono ?_); rintro e w3 ⟨um, uc, rfl, hom, hoc, _, hb3⟩; rw [small_dec] at hom hoc ⊢; go_must (obtain ⟨bk, off, cap, huc, hc1, hc2, hbk, h0, h1, h2, h3, h4⟩ := own_two hoc; subst huc; obtain ⟨am, km, hum⟩ := (Sees.own hom (by decide)).shape; subst hum; clear hom hoc; have hB3 := hB2.trans (hb3.mono hB2.size); simp only at h0 h1 h2 h3 h4; have hcv : ∀ o, (convert 28 9 (.slice a2 16 c2)).run Try.prog (w3.alloc o) = .ok (.string { data := #[84, 80, 1, 1, 2, 2, 0, 0, 0, 8, 10, 22, 0, 0, 0, 0] }) (w3.alloc o) := fun o => by { rw [← small_str]; exact run_string Try.underlying28 Try.underlying5 Try.underlying9 ((HS2.out.below hb3 (Nat.le_refl _)).alloc o) }; clear hb3 HS2)))
  go_ret
  exact ⟨rfl, hB3.alloc hB3.size _⟩
end Go.Proofs.Ytbpjcppgnndaaaa
