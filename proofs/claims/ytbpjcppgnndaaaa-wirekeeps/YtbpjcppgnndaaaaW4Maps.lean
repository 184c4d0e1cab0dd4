/-
  What the reader's method maps does: how many maps, and each of them; or the first error is kept. Condition: the bytes lie where the reader says, apart from the reader.
-/
import Derived.Test.YtbpjcppgnndaaaaW4Head
namespace Go.Proofs.Ytbpjcppgnndaaaa
open Go.RowKit
set_option linter.unusedVariables false
set_option maxRecDepth 100000

/-- What f tells from s1 on, g tells from s' on. -/
def Till {α : Type} (s1 : St) (f : Nat → Rd α) (s' : St) (g : Nat → Rd α) : Prop := match s1 with
  | .error x => s' = .error x
  | .ok p1 => match s' with | .ok p' => f p1 = g p' | .error x => f p1 = .error x
theorem Till.refl {α : Type} (s : St) (f : Nat → Rd α) : Till s f s f := by
  cases s with
  | error x => rfl
  | ok p => rfl
theorem Till.done {α : Type} {s1 s' : St} {f g : Nat → Rd α} {a : α} (h : Till s1 f s' g) (hg : ∀ p, g p = .ok (a, p)) : After s1 f s' a := by
  cases s1 with
  | error x => exact h
  | ok p =>
    cases s' with
    | error x => exact h
    | ok p' => exact (show f p = .ok (a, p') from (show f p = g p' from h).trans (hg p'))
theorem maps_step {s1 s' s2 : St} {f : Nat → Rd (List Int)} {xs ms : List Int} {k : Nat} {n q : Int} (h : Till s1 f s' (mapsR xs (k + 1) ms)) (ha : After s' (numR xs 3 12) s2 n) (hq : ∀ p, s' = .ok p → q = (p : Int)) (b : Bool) (hb : memB ms n = b) :
    Till s1 f (if b = true then failS s2 q 12 else s2) (mapsR xs k (ms ++ [n])) := by
  cases s1 with
  | error x =>
    have h : s' = .error x := h
    subst h
    have ha : s2 = .error x := ha
    subst ha
    show (if b = true then failS (.error x) q 12 else .error x) = .error x
    cases b <;> rfl
  | ok p1 =>
    cases s' with
    | error x =>
      have ha : s2 = .error x := ha
      subst ha
      have e : (if b = true then failS (.error x) q 12 else (.error x : St)) = .error x := by cases b <;> rfl
      rw [e]; exact h
    | ok p' =>
      have h : f p1 = mapsR xs (k + 1) ms p' := h
      have hq := hq p' rfl
      rw [mapsR] at h
      cases s2 with
      | error x =>
        have ha : numR xs 3 12 p' = .error x := ha
        have e : (if b = true then failS (.error x) q 12 else (.error x : St)) = .error x := by cases b <;> rfl
        rw [e]
        show f p1 = .error x
        rw [h, ha]; rfl
      | ok p2 =>
        have ha : numR xs 3 12 p' = .ok (n, p2) := ha
        rw [ha] at h
        have h : f p1 = if n ∈ ms then .error ((p' : Int), 12) else mapsR xs k (ms ++ [n]) p2 := h
        cases b with
        | true =>
          have hm : n ∈ ms := of_decide_eq_true hb
          rw [if_pos hm] at h
          show f p1 = .error (q, 12)
          rw [h, hq]
        | false =>
          have hm : ¬ n ∈ ms := of_decide_eq_false hb
          rw [if_neg hm] at h
          exact h
theorem Try.infoInt : (Try.prog.info? 3).map (fun i => (i.zero, i.size, i.bytes)) = some (some (.int .i64 0), 1, 8) := by kernel_rfl
theorem wf_small {ms : List Int} (h : ∀ n ∈ ms, 0 ≤ n ∧ n ≤ 3) : ∀ n ∈ ms, (Lit.int .i64 n).wf = true := fun n hn => WalkArith.wf_i64 (by have := h n hn; omega)
/-- The place that the reader's cells tell. -/
theorem RdAt.place {w : World} {br : Nat} {v : Value} {L : Nat} {s : St} {p q e : Int} (h : RdAt w br v L s) (hz : RdC w br v p q e) (k : Nat) (hk : s = .ok k) : p = (k : Int) := by
  subst hk
  have h2 := h.2
  unfold RdC at h2 hz
  rw [h2] at hz
  injection hz with hz
  injection hz with hz
  have := congrArg (fun (x : Array Value) => x[1]?) hz
  simp at this
  exact this.symm
theorem own_far {w w0 : World} {e : TypeId} {size : Nat} {v : Value} {n : Nat} {xs : List Value} {br : Nat} (h : w.ownsRow w0.heap.size e size v n xs) (hb : br < w0.heap.size) : v.ownBlock = none ∨ v.ownBlock ≠ some br := by
  cases hv : v.ownBlock with
  | none => exact .inl rfl
  | some j =>
    refine .inr fun e => ?_
    injection e with e
    have := (h.lt j hv).1
    omega
theorem own_row_ne {w w0 : World} {e : TypeId} {size : Nat} {v : Value} {n : Nat} {xs : List Value} {br : Nat} (h : w.ownsRow w0.heap.size e size v n xs) (hb : br < w0.heap.size) : v.ownBlock ≠ some br := by
  intro hv
  have := (h.lt br hv).1
  omega

set_option maxHeartbeats 3200000 in
theorem maps_any (br : Nat) (a : Option Addr) (cap : Nat) (xs : List Int) (s : St) (w : World) (h : RdAt w br (.slice a xs.length cap) xs.length s) (hsee : Sees .u8 w (.slice a xs.length cap) xs) (hne : xs = [] ∨ (Value.slice a xs.length cap).ownBlock ≠ some br) :
    Calls Try.prog 25 #[rdP br] w fun x w' => ∃ vm, x = .returned vm ∧ ∃ s' ms, w'.ownsRow w.heap.size 3 1 vm ms.length (ms.map (Value.int .i64)) ∧ ms.length ≤ 4 ∧ (∀ n ∈ ms, 0 ≤ n ∧ n ≤ 3) ∧ RdAt w' br (.slice a xs.length cap) xs.length s' ∧ After s (mapsA xs) s' ms ∧ w.grownBy w' (some br) := by
  obtain ⟨i0, hi, hz0, hz1, hz2⟩ := info_parts Try.infoInt
  have hbr := h.lt
  have HS : Hid (∀ w', w.grownBy w' (some br) → Sees .u8 w' (.slice a xs.length cap) xs) := fun w' hg => hsee.kept hg hne
  generalize hV : Value.slice a xs.length cap = V at *
  have HN : Hid (∀ (s : St) (most above : Int) (wr : World), w.grownBy wr (some br) → RdAt wr br V xs.length s → 0 ≤ most → most ≤ 4096 → (above = 11 ∨ above = 12) →
      Calls Try.prog 41 #[rdP br, .int .i64 most, .int .i64 above] wr fun x w' => ∃ s' n, x = .returned (.int .i64 n) ∧ 0 ≤ n ∧ n ≤ most ∧ RdAt w' br V xs.length s' ∧ After s (numR xs most above) s' n ∧ wr.grownBy w' (some br)) := fun s most above wr hg hat h0 h1 h2 => by
    subst hV
    exact number_any br a cap xs s most above wr hat (HS.out wr hg) h0 h1 h2
  generalize hL : xs.length = L at *
  have H : Hid (RdAt w br V L s) := h
  clear hsee hne h HS hV
  go_enter Try.func25, Try.ntmps25
  go_wp2_with (go_at_call 41; go_must (refine (HN.out s 4 11 _ (grown_refl _ _) H.out (by omega) (by omega) (by omega)).mono ?_); rintro e w1 ⟨s1, c, rfl, hc0, hc4, hat1, HA1, hg1⟩; have HA1 : Hid (After s (numR xs 4 11) s1 c) := HA1; have HT1 : Hid (RdAt w1 br V L s1) := hat1; clear hat1)
  go_loopw [3, 8] (fun vm i wr => ∃ (k : Nat) (s' : St) (ms : List Int), (k : Int) ≤ c ∧ i = .int .i64 k ∧ ms.length = k ∧ wr.ownsRow w.heap.size 3 1 vm ms.length (ms.map (Value.int .i64)) ∧ (∀ n ∈ ms, 0 ≤ n ∧ n ≤ 3) ∧ RdAt wr br V L s' ∧ Till s1 (mapsR xs c.toNat []) s' (mapsR xs (c.toNat - k) ms) ∧ w.grownBy wr (some br)) (fun _ i _ => c.toNat - (intOf i).toNat)
  case atStart => exact ⟨0, s1, [], by omega, rfl, rfl, World.ownsRow_nil _ _ _ _, by simp, HT1.out, Till.refl _ _, hg1⟩
  case round =>
    obtain ⟨k, s', ms, hk, rfl, hml, hown, hms, hat, htill, hgr⟩ := hrel
    have HW : Hid (∀ n ∈ ms, 0 ≤ n ∧ n ≤ 3) := hms
    have HT : Hid (Till s1 (mapsR xs c.toNat []) s' (mapsR xs (c.toNat - k) ms)) := htill
    obtain ⟨p, q, e, hz⟩ := hat.open
    have HP : Hid (∀ k, s' = .ok k → p = (k : Int)) := fun k hk => hat.place hz k hk
    obtain ⟨c0, c1, c2, c3⟩ := hz.cells
    have HAT : Hid (RdAt wr br V L s') := hat
    have hml4 : ms.length ≤ 4 := by omega
    have HML : Hid (ms.length = k) := hml
    clear hms htill hz hat hml
    by_cases hlt : (k : Int) < c
    · go_wp2_with (first
        | (go_at_call 41; go_must (refine (HN.out s' 3 12 _ hgr HAT.out (by omega) (by omega) (by omega)).mono ?_); rintro e w2 ⟨s2, n, rfl, hn0, hn3, hat2, HA2, hg2⟩; have HA2 : Hid (After s' (numR xs 3 12) s2 n) := HA2; have HAT2 : Hid (RdAt w2 br V L s2) := hat2; have hown2 := hown.kept hg2 (own_far hown hbr); have hgr2 := hgr.trans hg2; clear hat2 hown hg2 hgr)
        | (go_at_call 42; go_must (refine (contains_any _ ms n _ (Sees.own hown2 (wf_small HW.out))).mono ?_); rintro e w3 ⟨rfl, rfl⟩)
        | (go_at_call 40; go_must (refine (fail_any br V L s2 p 12 _ HAT2.out (by omega)).mono ?_); rintro e w3 ⟨rfl, hat3, hg3⟩; have HAT2 : Hid (RdAt w3 br V L (failS s2 p 12)) := hat3; have hown2 := hown2.kept hg3 (own_far hown2 hbr); have hgr2 := hgr2.trans hg3; clear hat3 hg3)
        | (at_builtin; have hsz := hgr2.size; go_must (refine wpList_append_own _ rfl _ _ 22 rfl w.heap.size 3 i0 (.int .i64 0) 1 8 Try.underlying22 hi hz0 hz1 hz2 rfl (by decide) _ _ _ rfl (hown2.alloc _) ⟨_, 0, none⟩ 1 1 [.int .i64 n] rfl rfl (cell_one_new _ _ _) (one_cell _ _) (by unfold maxLen; omega) (by omega) (by simp; omega) ?_); intro v' w5 hown5 hgrow _))
      · have hrow := own_row_ne hown2 hbr
        have R1 : w5.ownsRow w.heap.size 3 1 v' (ms ++ [n]).length ((ms ++ [n]).map (Value.int .i64)) := by simpa using hown5
        have R2 := (hgr2.trans (grown_alloc _ _ (some br))).andThen hgrow (fun j hj => .inl (own_block_lt hown2 j hj).1)
        have R3 := (HAT2.out.kept (grown_alloc _ _ none) (by simp)).kept hgrow hrow
        have HB : Hid (memB ms n = true) := by assumption
        have HSt : Hid (Till s1 (mapsR xs c.toNat []) (failS s2 p 12) (mapsR xs (c.toNat - (k + 1)) (ms ++ [n]))) := by
          have h1 := HT.out
          rw [show c.toNat - k = (c.toNat - (k + 1)) + 1 by omega] at h1
          exact maps_step h1 HA2.out HP.out true HB.out
        clear hown2 hown5 hgrow hgr2
        go_roundw
        case rel => exact ⟨k + 1, _, ms ++ [n], by omega, by go_num, by simp [HML.out], R1, fun m hm => by
          rcases List.mem_append.1 hm with h | h
          · exact HW.out m h
          · simp at h; subst h; exact ⟨hn0, hn3⟩, R3, HSt.out, R2⟩
        case measure => simp [intOf]; omega
      · have hrow := own_row_ne hown2 hbr
        have R1 : w5.ownsRow w.heap.size 3 1 v' (ms ++ [n]).length ((ms ++ [n]).map (Value.int .i64)) := by simpa using hown5
        have R2 := (hgr2.trans (grown_alloc _ _ (some br))).andThen hgrow (fun j hj => .inl (own_block_lt hown2 j hj).1)
        have R3 := (HAT2.out.kept (grown_alloc _ _ none) (by simp)).kept hgrow hrow
        have HB : Hid (memB ms n = false) := by assumption
        have HSt : Hid (Till s1 (mapsR xs c.toNat []) (s2) (mapsR xs (c.toNat - (k + 1)) (ms ++ [n]))) := by
          have h1 := HT.out
          rw [show c.toNat - k = (c.toNat - (k + 1)) + 1 by omega] at h1
          exact maps_step h1 HA2.out HP.out false HB.out
        clear hown2 hown5 hgrow hgr2
        go_roundw
        case rel => exact ⟨k + 1, _, ms ++ [n], by omega, by go_num, by simp [HML.out], R1, fun m hm => by
          rcases List.mem_append.1 hm with h | h
          · exact HW.out m h
          · simp at h; subst h; exact ⟨hn0, hn3⟩, R3, HSt.out, R2⟩
        case measure => simp [intOf]; omega
    · have HD : Hid (After s1 (mapsR xs c.toNat []) s' ms) := HT.out.done fun p => by rw [show c.toNat - k = 0 by omega]; rfl
      have HE : After s (mapsA xs) s' ms := After.then' (g := fun (n : Int) (p : Nat) => mapsR xs n.toNat [] p) HA1.out HD.out
      have HE : Hid (After s (mapsA xs) s' ms) := HE
      obtain ⟨av, cv, hvs⟩ : ∃ av cv, u3 = .slice av ms.length cv := (Sees.own hown (wf_small HW.out)).shape
      subst hvs
      go_wp2_with fail
      go_ret
      exact ⟨_, rfl, s', ms, hown, hml4, HW.out, HAT.out, HE.out, hgr⟩
end Go.Proofs.Ytbpjcppgnndaaaa
