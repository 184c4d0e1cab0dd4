/-
  What the reader's methods head and end do: the first three bytes; is nothing left over. Condition: the bytes lie where the reader says, apart from the reader.
-/
import Derived.Test.YtbpjcppgnndaaaaW4Number
namespace Go.Proofs.Ytbpjcppgnndaaaa
open Go.RowKit
set_option linter.unusedVariables false
set_option maxRecDepth 100000

theorem Sees.kept {k : IntKind} {w w' : World} {v : Value} {xs : List Int} {r : Option Nat} (h : Sees k w v xs) (hg : w.grownBy w' r) (hr : xs = [] ∨ v.ownBlock ≠ r) : Sees k w' v xs := by
  obtain ⟨a, cap, rfl, hl, hm, hn0, hw, hs⟩ := h
  refine ⟨a, cap, rfl, hl, hm, hn0, hw, fun hne => ?_⟩
  obtain ⟨b, off, rfl, hlt, hc⟩ := hs hne
  refine ⟨b, off, rfl, Nat.lt_of_lt_of_le hlt hg.size, fun i hi => ?_⟩
  have hb : some b ≠ r := by
    rcases hr with hr | hr
    · exact absurd hr hne
    · exact hr
  have := hc i hi
  unfold World.cell? at this ⊢
  rw [hg.block b hlt hb]; exact this
/-- How many rounds are left to head. -/
def rdM (w : World) (br : Nat) : Nat := match w.cell? ⟨br, 3, none⟩, w.cell? ⟨br, 1, none⟩ with
  | some (.int _ e), some (.int _ n) => if e = 0 then (4 - n).toNat + 1 else 0
  | _, _ => 0
theorem rdM_ok {w : World} {br : Nat} {v : Value} {p q : Int} (h : RdC w br v p q 0) : rdM w br = (4 - p).toNat + 1 := by
  obtain ⟨c0, c1, c2, c3⟩ := h.cells
  unfold rdM; rw [c1, c3]; simp
theorem rdM_bad {w : World} {br : Nat} {v : Value} {p q e : Int} (h : RdC w br v p q e) (he : e ≠ 0) : rdM w br = 0 := by
  obtain ⟨c0, c1, c2, c3⟩ := h.cells
  unfold rdM; rw [c1, c3]; simp [he]
theorem headR_short {xs : List Int} {k p : Nat} (h : xs.length ≤ p) : headR xs (k + 1) p = .error ((p : Int), 10) := by rw [headR, if_pos h]
theorem headR_other {xs : List Int} {k p : Nat} (h : p < xs.length) (hc : xs.getD p 0 ≠ headB p) : headR xs (k + 1) p = .error ((p : Int), 12) := by rw [headR, if_neg (by omega), if_pos hc]
theorem headR_more {xs : List Int} {k p : Nat} (h : p < xs.length) (hc : xs.getD p 0 = headB p) : headR xs (k + 1) p = headR xs k (p + 1) := by rw [headR, if_neg (by omega), if_neg (by simpa using hc)]

/-- What head has read so far. -/
def HeadRel (xs : List Int) (s : St) : Prop := match s with | .ok p => p ≤ 3 ∧ headR xs 3 0 = headR xs (3 - p) p | .error x => headR xs 3 0 = .error x

set_option maxHeartbeats 3200000 in
theorem head_any (br : Nat) (a : Option Addr) (cap : Nat) (xs : List Int) (w : World) (h : RdC w br (.slice a xs.length cap) 0 0 0) (hsee : Sees .u8 w (.slice a xs.length cap) xs) (hne : xs = [] ∨ (Value.slice a xs.length cap).ownBlock ≠ some br) :
    Calls Try.prog 24 #[rdP br] w fun x w' => x = .returned (.tuple #[]) ∧ ∃ s', RdAt w' br (.slice a xs.length cap) xs.length s' ∧ After (.ok 0) (headR xs 3) s' () ∧ w.grownBy w' (some br) := by
  have hb := hsee.bytes
  have hcap : xs.length ≤ cap ∧ cap ≤ 9223372036854775807 := by
    obtain ⟨a', cap', hv, h1, h2, _⟩ := hsee
    injection hv with _ _ e
    subst e
    exact ⟨h1, h2⟩
  obtain ⟨L, HL⟩ : ∃ L, Hid (L = xs.length) := ⟨_, rfl⟩
  rw [← HL.out] at hsee hne h hcap ⊢
  have HS : Hid (∀ w', w.grownBy w' (some br) → Sees .u8 w' (.slice a L cap) xs) := fun w' hg => hsee.kept hg hne
  obtain ⟨hc1, hc2⟩ := hcap
  have H0 : Hid (RdC w br (.slice a L cap) 0 0 0) := h
  clear hsee hne h
  go_enter Try.func24, Try.ntmps24
  go_wp2_with fail
  go_loopw [] (fun wr => ∃ s : St, RdAt wr br (.slice a L cap) L s ∧ HeadRel xs s ∧ w.grownBy wr (some br)) (fun wr => rdM wr br)
  case atStart => exact ⟨.ok 0, ⟨by omega, H0.out⟩, ⟨by omega, rfl⟩, grown_refl _ _⟩
  case round =>
    obtain ⟨s, hat, hrl, hgr⟩ := hrel
    cases s with
    | error x =>
      obtain ⟨q, e⟩ := x
      obtain ⟨he, z, hz⟩ := hat
      have HZ : Hid (RdC wr br (.slice a L cap) z q e) := hz
      obtain ⟨c0, c1, c2, c3⟩ := hz.cells
      have h0 : (e == 0) = false := by simpa using he
      have HH : Hid (headR xs 3 0 = .error (q, e)) := hrl
      clear hz hrl
      by_cases hz3 : z < 3
      · go_wp2_with fail
        go_returns
        exact ⟨rfl, .error (q, e), ⟨he, z, HZ.out⟩, HH.out, hgr⟩
      · go_wp2_with fail
        go_returns
        exact ⟨rfl, .error (q, e), ⟨he, z, HZ.out⟩, HH.out, hgr⟩
    | ok p =>
      obtain ⟨hp, hz⟩ := hat
      obtain ⟨hp3, hh⟩ := hrl
      have HZ : Hid (RdC wr br (.slice a L cap) p 0 0) := hz
      have f1 := hz.frozen 1
      obtain ⟨c0, c1, c2, c3⟩ := hz.cells
      have HH : Hid (headR xs 3 0 = headR xs (3 - p) p) := hh
      have HM : Hid (rdM wr br = (4 - (p : Int)).toNat + 1) := rdM_ok hz
      clear hz hh
      by_cases hlt3 : p < 3
      · by_cases hlt : p < L
        · obtain ⟨b, off, rfl, hcell⟩ : ∃ b off, a = some ⟨b, off, none⟩ ∧ wr.cell? ⟨b, off + p, none⟩ = some (.int .u8 (xs.getD p 0)) := by
            obtain ⟨a', cap', hv, _, _, _, _, hs⟩ := HS.out wr hgr
            injection hv with e1
            subst e1
            obtain ⟨b, off, rfl, _, hc⟩ := hs (fun e => by rw [HL.out, e] at hlt; simp at hlt)
            exact ⟨b, off, rfl, hc p (by rw [← HL.out]; exact hlt)⟩
          by_cases hcc : xs.getD p 0 = headB p
          · have HN : Hid (headR xs 3 0 = headR xs (3 - (p + 1)) (p + 1)) := by
              show _ = _
              rw [HH.out, show 3 - p = (3 - (p + 1)) + 1 by omega, headR_more (by rw [← HL.out]; exact hlt) hcc]
            have HR : Hid (∀ m (z : Int), RdC ((wr.drewN m).setCell ⟨br, 1, none⟩ (.int .i64 z)) br (.slice (some ⟨b, off, none⟩) L cap) z 0 0) := fun m z => RdC.set1 (w := wr.drewN m) HZ.out z
            rw [hcc] at hcell
            clear hcc HH HZ
            obtain e | e | e : p = 0 ∨ p = 1 ∨ p = 2 := by omega
            all_goals
              subst e
              simp [headB] at hcell
              go_wp2_with fail
              go_quiet (fail)
              go_wp2_with fail
              go_quiet (fail)
              go_wp2_with fail
              go_roundw
              case rel => exact ⟨.ok (_ + 1), ⟨by omega, HR.out _ _⟩, ⟨by omega, HN.out⟩, hgr.trans ((grown_drewN _ _ _).trans (grown_set _ ⟨br, 1, none⟩ _))⟩
              case measure => rw [HM.out, rdM_ok (HR.out _ _)]; omega
          · have HN : Hid (headR xs 3 0 = .error ((p : Int), 12)) := by
              show _ = _
              rw [HH.out, show 3 - p = (3 - (p + 1)) + 1 by omega, headR_other (by rw [← HL.out]; exact hlt) hcc]
            have HF : Hid (∀ m, Calls Try.prog 40 #[rdP br, .int .i64 p, .int .i64 12] (wr.drewN m) fun x w' => x = .returned (.tuple #[]) ∧ RdC w' br (.slice (some ⟨b, off, none⟩) L cap) p p 12 ∧ (wr.drewN m).grownBy w' (some br)) := fun m => fail_ok br _ p p 12 (wr.drewN m) HZ.out
            generalize xs.getD p 0 = c at *
            have hcn : (c != headB p) = true := by simpa using hcc
            clear HH HZ hcc
            obtain e | e | e : p = 0 ∨ p = 1 ∨ p = 2 := by omega
            all_goals
              subst e
              first
                | (have hcn : (c != ((((ByteArray.mk #[84, 80, 1])[0]'(by decide)).toNat : Nat) : Int)) = true := hcn)
                | (have hcn : (c != ((((ByteArray.mk #[84, 80, 1])[1]'(by decide)).toNat : Nat) : Int)) = true := hcn)
                | (have hcn : (c != ((((ByteArray.mk #[84, 80, 1])[2]'(by decide)).toNat : Nat) : Int)) = true := hcn)
              try simp at hcell
              go_wp2_with fail
              go_quiet (fail)
              go_wp2_with fail
              go_quiet (fail)
              go_wp2_with (go_at_call 40; go_must (refine (HF.out _).mono ?_); rintro e w' ⟨rfl, hr, hg2⟩)
              go_roundw
              case rel => exact ⟨.error (_, 12), ⟨by omega, _, hr⟩, HN.out, hgr.trans ((grown_drewN _ _ _).trans hg2)⟩
              case measure => rw [HM.out, rdM_bad hr (by omega)]; omega
        · have HN : Hid (headR xs 3 0 = .error ((p : Int), 10)) := by
            show _ = _
            rw [HH.out, show 3 - p = (3 - (p + 1)) + 1 by omega, headR_short (by rw [← HL.out]; omega)]
          have HF : Hid (∀ m, Calls Try.prog 40 #[rdP br, .int .i64 p, .int .i64 10] (wr.drewN m) fun x w' => x = .returned (.tuple #[]) ∧ RdC w' br (.slice a L cap) p p 10 ∧ (wr.drewN m).grownBy w' (some br)) := fun m => fail_ok br _ p p 10 (wr.drewN m) HZ.out
          clear HH HZ
          go_wp2_with fail
          go_quiet (fail)
          go_wp2_with (go_at_call 40; go_must (refine (HF.out _).mono ?_); rintro e w' ⟨rfl, hr, hg2⟩)
          go_roundw
          case rel => exact ⟨.error (_, 10), ⟨by omega, _, hr⟩, HN.out, hgr.trans ((grown_drewN _ _ _).trans hg2)⟩
          case measure => rw [HM.out, rdM_bad hr (by omega)]; omega
      · obtain rfl : p = 3 := by omega
        go_wp2_with fail
        go_returns
        exact ⟨rfl, .ok 3, ⟨hp, HZ.out⟩, HH.out, hgr⟩

set_option maxHeartbeats 1600000 in
theorem end_any (br : Nat) (a : Option Addr) (cap : Nat) (xs : List Int) (s : St) (w : World) (h : RdAt w br (.slice a xs.length cap) xs.length s) (hm : cap ≤ 9223372036854775807) (hl : xs.length ≤ cap) :
    Calls Try.prog 27 #[rdP br] w fun x w' => x = .returned (.tuple #[]) ∧ ∃ s', RdAt w' br (.slice a xs.length cap) xs.length s' ∧ After s (endR xs) s' () ∧ w.grownBy w' (some br) := by
  obtain ⟨L, HL⟩ : ∃ L, Hid (L = xs.length) := ⟨_, rfl⟩
  rw [← HL.out] at h hl ⊢
  have H : Hid (RdAt w br (.slice a L cap) L s) := h
  obtain ⟨p, q, e, hz⟩ := h.open
  have HF : Hid (∀ m, Calls Try.prog 40 #[rdP br, .int .i64 p, .int .i64 13] (w.drewN m) fun x w' => x = .returned (.tuple #[]) ∧ RdAt w' br (.slice a L cap) L (failS s p 13) ∧ (w.drewN m).grownBy w' (some br)) := fun m => fail_any br _ L s p 13 (w.drewN m) (h.kept (grown_drewN w m none) (by simp)) (by omega)
  obtain ⟨c0, c1, c2, c3⟩ := hz.cells
  have HZ : Hid (RdC w br (.slice a L cap) p q e) := hz
  have HP : Hid (∀ k, s = .ok k → p = (k : Int) ∧ k ≤ L) := fun k hk => by
    subst hk
    have h2 := h.2
    unfold RdC at h2 hz
    rw [h2] at hz
    injection hz with hz
    injection hz with hz
    have := congrArg (fun (x : Array Value) => x[1]?) hz
    simp at this
    exact ⟨this.symm, h.1⟩
  clear h hz
  by_cases hlt : p < (L : Int)
  · go_enter Try.func27, Try.ntmps27
    go_wp2_with fail
    go_quiet (fail)
    go_wp2_with (go_at_call 40; go_must (refine (HF.out _).mono ?_); rintro e w' ⟨rfl, hr, hg2⟩)
    go_returns
    refine ⟨rfl, failS s p 13, hr, ?_, (grown_drewN _ _ _).trans hg2⟩
    cases s with
    | error x => rfl
    | ok k =>
      have hk := HP.out k rfl
      show endR xs k = .error (p, 13)
      rw [endR, if_pos (by rw [← HL.out]; omega), hk.1]
  · go_enter Try.func27, Try.ntmps27
    go_wp2_with fail
    go_quiet (fail)
    go_wp2_with fail
    go_returns
    refine ⟨rfl, s, H.out.kept (grown_drewN _ _ none) (by simp), ?_, grown_drewN _ _ _⟩
    cases s with
    | error x => rfl
    | ok k =>
      have hk := HP.out k rfl
      show endR xs k = .ok ((), k)
      rw [endR, if_neg (by rw [← HL.out]; omega)]
end Go.Proofs.Ytbpjcppgnndaaaa
