/-
  What the reader's method code does: how many instructions, and each of them; or the first error is kept. Condition: the bytes lie where the reader says, apart from the reader.
-/
import Derived.Test.YtbpjcppgnndaaaaW4Inst
import Derived.Test.YtbpjcppgnndaaaaO2Slices
namespace Go.Proofs.Ytbpjcppgnndaaaa
open Go.RowKit
set_option linter.unusedVariables false
set_option maxRecDepth 100000

theorem one_inst (w : World) (e : TypeId) (i : In) (n : Nat) (hn : n = w.heap.size) : ∀ j u, (flat [i])[j]? = some u → (w.alloc (.cells #[.int .i64 i.op, .int .i64 i.d, .int .i64 i.a, .int .i64 i.b, .int .i64 i.imm] e)).cell? ((⟨n, 0, none⟩ : Addr).add j) = some u := by
  subst hn
  intro j u hu
  have hf : flat [i] = i.cells := by simp [flat]
  rw [hf] at hu
  rw [Addr.add_mid, Nat.zero_add, World.cell?_alloc_at _ _ _ _ rfl]
  simpa using hu
theorem Try.infoInst4 : (Try.prog.info? 45).map (fun i => (i.zero, i.size, i.bytes)) = some (some (instV 0 0 0 0 0), 5, 40) := by kernel_rfl
theorem flat_app (a b : List In) : flat a ++ flat b = flat (a ++ b) := by simp [flat]
theorem code_step {s1 s' s2 : St} {f : Nat → Rd (List In)} {xs : List Int} {is : List In} {k : Nat} {i : In} (h : Till s1 f s' (codeR xs (k + 1) is)) (ha : After s' (instR xs) s2 i) : Till s1 f s2 (codeR xs k (is ++ [i])) := by
  cases s1 with
  | error x =>
    have h : s' = .error x := h
    subst h
    exact ha
  | ok p1 =>
    cases s' with
    | error x =>
      have ha : s2 = .error x := ha
      subst ha
      exact h
    | ok p' =>
      have h : f p1 = codeR xs (k + 1) is p' := h
      rw [codeR] at h
      cases s2 with
      | error x =>
        have ha : instR xs p' = .error x := ha
        show f p1 = .error x
        rw [h, ha]; rfl
      | ok p2 =>
        have ha : instR xs p' = .ok (i, p2) := ha
        rw [ha] at h
        exact h
theorem code_none {xs : List Int} {s s1 : St} {q : Int} (h : After s (numR xs 64 11) s1 0) (hq : ∀ p, s = .ok p → q = (p : Int)) : After s (codeA xs) (failS s1 q 12) [] := by
  cases s with
  | error x =>
    have h : s1 = .error x := h
    subst h
    rfl
  | ok p =>
    have hq := hq p rfl
    cases s1 with
    | error x =>
      have h : numR xs 64 11 p = .error x := h
      show codeA xs p = .error x
      rw [codeA, h]; rfl
    | ok p1 =>
      have h : numR xs 64 11 p = .ok (0, p1) := h
      show codeA xs p = .error (q, 12)
      rw [codeA, h, hq]; rfl
theorem code_some {xs : List Int} {s s1 s' : St} {c : Int} {is : List In} (h : After s (numR xs 64 11) s1 c) (hc : c ≠ 0) (k : After s1 (codeR xs c.toNat []) s' is) : After s (codeA xs) s' is := by
  refine After.then' (g := fun (n : Int) (p' : Nat) => if n = 0 then .error (((match s with | .ok p => p | .error _ => 0) : Nat), 12) else codeR xs n.toNat [] p') h ?_ |>.cast ?_
  · simp only [if_neg hc]; exact k
  · intro p hp
    subst hp
    rfl
theorem ownI_seesI_shape {w : World} {base : Nat} {e : TypeId} {v : Value} {xs : List In} (h : w.ownsRow base e 5 v xs.length (flat xs)) : ∃ a cap, v = .slice a xs.length cap := by
  obtain ⟨a, cap, rfl, _⟩ := own_seesI h
  exact ⟨a, cap, rfl⟩

set_option maxHeartbeats 3200000 in
theorem code_any (br : Nat) (a : Option Addr) (cap : Nat) (xs : List Int) (s : St) (w : World) (h : RdAt w br (.slice a xs.length cap) xs.length s) (hsee : Sees .u8 w (.slice a xs.length cap) xs) (hne : xs = [] ∨ (Value.slice a xs.length cap).ownBlock ≠ some br) :
    Calls Try.prog 26 #[rdP br] w fun x w' => ∃ vc, x = .returned vc ∧ ∃ s' is, w'.ownsRow w.heap.size 45 5 vc is.length (flat is) ∧ is.length ≤ 64 ∧ (∀ i ∈ is, i.wf) ∧ RdAt w' br (.slice a xs.length cap) xs.length s' ∧ After s (codeA xs) s' is ∧ w.grownBy w' (some br) := by
  obtain ⟨i0, hi, hz0, hz1, hz2⟩ := info_parts Try.infoInst4
  have hbr := h.lt
  have HS : Hid (∀ w', w.grownBy w' (some br) → Sees .u8 w' (.slice a xs.length cap) xs) := fun w' hg => hsee.kept hg hne
  have HNE : Hid _ := hne
  generalize hV : Value.slice a xs.length cap = V at *
  have HN : Hid (∀ (s : St) (most above : Int) (wr : World), w.grownBy wr (some br) → RdAt wr br V xs.length s → 0 ≤ most → most ≤ 4096 → (above = 11 ∨ above = 12) →
      Calls Try.prog 41 #[rdP br, .int .i64 most, .int .i64 above] wr fun x w' => ∃ s' n, x = .returned (.int .i64 n) ∧ 0 ≤ n ∧ n ≤ most ∧ RdAt w' br V xs.length s' ∧ After s (numR xs most above) s' n ∧ wr.grownBy w' (some br)) := fun s most above wr hg hat h0 h1 h2 => by
    subst hV
    exact number_any br a cap xs s most above wr hat (HS.out wr hg) h0 h1 h2
  have HI : Hid (∀ (s : St) (wr : World), w.grownBy wr (some br) → RdAt wr br V xs.length s →
      Calls Try.prog 43 #[rdP br] wr fun x w' => ∃ i : In, x = .returned i.v ∧ i.wf ∧ ∃ s', RdAt w' br V xs.length s' ∧ After s (instR xs) s' i ∧ wr.grownBy w' (some br)) := fun s wr hg hat => by
    subst hV
    exact instruction_any br a cap xs s wr hat (HS.out wr hg) HNE.out
  generalize hL : xs.length = L at *
  obtain ⟨p, q, e, hz⟩ := h.open
  have HP : Hid (∀ k, s = .ok k → p = (k : Int)) := fun k hk => h.place hz k hk
  obtain ⟨c0, c1, c2, c3⟩ := hz.cells
  have H : Hid (RdAt w br V L s) := h
  clear hsee hne h HS hV hz HNE
  go_enter Try.func26, Try.ntmps26
  go_wp2_with (first
    | (go_at_call 41; go_must (refine (HN.out s 64 11 _ (grown_refl _ _) H.out (by omega) (by omega) (by omega)).mono ?_); rintro e w1 ⟨s1, c, rfl, hc0, hc64, hat1, ha1, hg1⟩; have HA1 : Hid (After s (numR xs 64 11) s1 c) := ha1; have HT1 : Hid (RdAt w1 br V L s1) := hat1; clear hat1 ha1)
    | (go_at_call 40; go_must (refine (fail_any br V L s1 p 12 _ HT1.out (by omega)).mono ?_); rintro e w2 ⟨rfl, hat2, hg2⟩; have HT2 : Hid (RdAt w2 br V L (failS s1 p 12)) := hat2; clear hat2))
  · obtain rfl : c = 0 := by simpa using ‹(c == 0) = true›
    refine wp_loop_rounds 1 ?_
    rw [rounds_succ]
    go_wp2_with fail
    go_ret
    exact ⟨_, rfl, _, [], World.ownsRow_nil _ _ _ _, by simp, by simp, HT2.out, code_none HA1.out HP.out, hg1.trans hg2⟩
  · have h00 : (c == 0) = false := by assumption
    have hcn : c ≠ 0 := by simpa using h00
    rw [h00]
    have HCN : Hid (c ≠ 0) := hcn
    clear hcn
    go_loopw [5, 18] (fun vc i wr => ∃ (k : Nat) (s' : St) (is : List In), (k : Int) ≤ c ∧ i = .int .i64 k ∧ is.length = k ∧ wr.ownsRow w.heap.size 45 5 vc is.length (flat is) ∧ (∀ i ∈ is, i.wf) ∧ RdAt wr br V L s' ∧ Till s1 (codeR xs c.toNat []) s' (codeR xs (c.toNat - k) is) ∧ w.grownBy wr (some br)) (fun _ i _ => c.toNat - (intOf i).toNat)
    case atStart => exact ⟨0, s1, [], by omega, rfl, rfl, World.ownsRow_nil _ _ _ _, by simp, HT1.out, Till.refl _ _, hg1⟩
    case round =>
      obtain ⟨k, s', is, hk, rfl, hml, hown, hms, hat, htill, hgr⟩ := hrel
      have HW : Hid (∀ i ∈ is, i.wf) := hms
      have HT : Hid (Till s1 (codeR xs c.toNat []) s' (codeR xs (c.toNat - k) is)) := htill
      have HAT : Hid (RdAt wr br V L s') := hat
      have hml64 : is.length ≤ 64 := by omega
      have HML : Hid (is.length = k) := hml
      clear hms htill hat hml
      by_cases hlt : (k : Int) < c
      · go_wp2_with (first
          | (go_at_call 43; go_must (refine (HI.out s' _ hgr HAT.out).mono ?_); rintro e w2 ⟨⟨jo, jd, ja, jb, ji⟩, rfl, hwf, s2, hat2, ha2, hg2⟩; have HA2 : Hid (After s' (instR xs) s2 ⟨jo, jd, ja, jb, ji⟩) := ha2; have HWF : Hid ((⟨jo, jd, ja, jb, ji⟩ : In).wf) := hwf; have HAT2 : Hid (RdAt w2 br V L s2) := hat2; have hown2 := hown.kept hg2 (own_far hown hbr); have hgr2 := hgr.trans hg2; clear hat2 hown hg2 hgr hwf ha2)
          | (at_builtin; have hsz := hgr2.size; go_must (refine wpList_append_own _ rfl (.tmp 20) (.tmp 23) 23 rfl w.heap.size 45 i0 (instV 0 0 0 0 0) 5 40 Try.underlying23 hi hz0 hz1 hz2 rfl (by decide) _ _ _ rfl (hown2.alloc _) ⟨_, 0, none⟩ 1 1 (flat [In.mk jo jd ja jb ji]) rfl rfl (one_inst _ _ ⟨jo, jd, ja, jb, ji⟩ _ (by simp)) (flat_one _) (by unfold maxLen; omega) (by omega) (by simp; omega) ?_); intro v' w5 hown5 hgrow _))
        have hrow := own_row_ne hown2 hbr
        have R1 : w5.ownsRow w.heap.size 45 5 v' (is ++ [In.mk jo jd ja jb ji]).length (flat (is ++ [In.mk jo jd ja jb ji])) := by rw [← flat_app]; simpa using hown5
        have R2 := (hgr2.trans (grown_alloc _ _ (some br))).andThen hgrow (fun j hj => .inl (hown2.lt j hj).1)
        have R3 := (HAT2.out.kept (grown_alloc _ _ none) (by simp)).kept hgrow hrow
        have HSt : Hid (Till s1 (codeR xs c.toNat []) s2 (codeR xs (c.toNat - (k + 1)) (is ++ [In.mk jo jd ja jb ji]))) := by
          have h1 := HT.out
          rw [show c.toNat - k = (c.toNat - (k + 1)) + 1 by omega] at h1
          exact code_step h1 HA2.out
        clear hown2 hown5 hgrow hgr2
        go_roundw
        case rel => exact ⟨k + 1, _, is ++ [In.mk jo jd ja jb ji], by omega, by go_num, by simp [HML.out], R1, fun m hm => by
          rcases List.mem_append.1 hm with h | h
          · exact HW.out m h
          · simp at h; subst h; exact HWF.out, R3, HSt.out, R2⟩
        case measure => simp [intOf]; omega
      · have HD : After s1 (codeR xs c.toNat []) s' is := HT.out.done fun p => by rw [show c.toNat - k = 0 by omega]; rfl
        have HE : Hid (After s (codeA xs) s' is) := code_some HA1.out HCN.out HD
        obtain ⟨av, cv, hvs⟩ : ∃ av cv, u5 = .slice av is.length cv := ownI_seesI_shape hown
        subst hvs
        clear HD
        go_wp2_with fail
        go_ret
        exact ⟨_, rfl, s', is, hown, hml64, HW.out, HAT.out, HE.out, hgr⟩
end Go.Proofs.Ytbpjcppgnndaaaa
