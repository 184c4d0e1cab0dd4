
/-
  The document's kern of layer 21: Set, Pick, Fair. Condition: it lies where the pointer says; what is handed in lies elsewhere.
-/
import Derived.Test.YtnjmajcjdkceoaaK21DA
namespace Go.Proofs.Ytnjmajcjdkceoaa
open Go.RowKit
set_option linter.unusedVariables false
set_option linter.unusedSimpArgs false
set_option maxRecDepth 100000
/-- The modes behind so many of what Set is handed. -/
def setJ (l : List Int) (rs : List Bool) : Nat → List Int
  | 0 => l
  | j + 1 => (setJ l rs j).set j (setO ((setJ l rs j).getD j 0) (rs.getD j false))
theorem setJ_len (l : List Int) (rs : List Bool) : ∀ j, (setJ l rs j).length = l.length
  | 0 => rfl
  | j + 1 => by simp [setJ, setJ_len l rs j]
theorem setJ_at (l : List Int) (rs : List Bool) : ∀ j, j ≤ l.length → ∀ i, i < l.length → (setJ l rs j).getD i 0 = if i < j then setO (l.getD i 0) (rs.getD i false) else l.getD i 0
  | 0, _, i, hi => by simp [setJ]
  | j + 1, hj, i, hi => by
    have h1 := setJ_at l rs j (by omega) i hi
    have h2 := setJ_at l rs j (by omega) j (by omega)
    have hl := setJ_len l rs j
    rw [if_neg (by omega)] at h2
    show ((setJ l rs j).set j (setO ((setJ l rs j).getD j 0) (rs.getD j false))).getD i 0 = _
    rw [h2]
    by_cases e : i = j
    · subst e
      rw [if_pos (by omega)]
      simp [List.getD, hl, hi]
    · have e' : j ≠ i := fun q => e q.symm
      have : ((setJ l rs j).set j (setO (l.getD j 0) (rs.getD j false))).getD i 0 = (setJ l rs j).getD i 0 := by simp [List.getD, List.getElem?_set_ne e']
      rw [this, h1]
      by_cases h3 : i < j
      · rw [if_pos h3, if_pos (by omega)]
      · rw [if_neg h3, if_neg (by omega)]
theorem setJ_all {l : List Int} {rs : List Bool} (h : rs.length = l.length) : setJ l rs l.length = setM l rs := by
  refine List.ext_getElem (by rw [setJ_len, setM_len h]) fun i h1 h2 => ?_
  have hi : i < l.length := by rw [setJ_len] at h1; exact h1
  have e1 := setJ_at l rs l.length (Nat.le_refl _) i hi
  have e2 := setM_at h hi
  rw [if_pos hi, ← e2] at e1
  simpa [List.getD, h1, h2] using e1
section
variable {w w' : World} {B b g : Nat} {v : Value} {K K' : Kn}
theorem SeesG.atB {a : Option Addr} {n cap : Nat} {rs : List Bool} (h : SeesG bK 1 false w (.slice a n cap) rs) {j : Nat} (hj : j < rs.length) : ∃ p off, a = some ⟨p, off, none⟩ ∧ p < w.heap.size ∧ ∀ i, i < rs.length → w.cell? ⟨p, off + i, none⟩ = some (.bool (rs.getD i false)) := by
  obtain ⟨a', cap', ev, _, _, _, hat⟩ := h
  simp only [Value.slice.injEq] at ev
  obtain ⟨rfl, _, rfl⟩ := ev
  obtain ⟨p, off, rfl, hp, hc⟩ := hat (fun e => by rw [e] at hj; simp at hj)
  refine ⟨p, off, rfl, hp, fun i hi => ?_⟩
  have := hc i hi 0 (by omega)
  simpa using this
set_option maxHeartbeats 3200000 in
theorem dset (h : Dk w B b g v K) (hk : K.Ok) {u : Value} {rs : List Bool} (hs : SeesG bK 1 false w u rs) (hap : rs ≠ [] → ∀ j, u.ownBlock = some j → ¬ j = g) {E : Int} (HQ : Hid (K.set rs = (E, K'))) : Calls Try.prog 14 #[.pointer (some ⟨b, 0, none⟩), u] w fun e w' => e = .returned (.int .i64 E) ∧ Dk w' B b g v K' ∧ Chg w w' (fun k => k = g) := by
  have HD0 := keepG h
  have HS0 := keepG hs
  obtain ⟨a, cap, rfl, hlc, hmx⟩ := hs.shape
  obtain ⟨c0, c1⟩ := h.low
  have hq := HQ.out
  unfold Kn.set at hq
  have hl := hk.len.2
  clear h HQ hs
  by_cases hrl : rs.length = K.m.length
  · rw [if_pos hrl] at hq
    injection hq with e1 e2
    subst e1 e2
    have hrb : ((rs.length : Int) != K.m.length) = false := by simp [hrl]
    have HRL := keepG hrl
    have hne : rs ≠ [] := fun e => by rw [e] at hrl; have := hk.len.1; simp at hrl; omega
    have HS := keepG (fun (wr : World) (hc : Chg w wr (fun k => k = g)) => HS0.out.chg hc (hap hne))
    have hap2 := hap hne
    obtain ⟨n, HN⟩ : ∃ n, Hid (K.m.length = n) := ⟨_, rfl⟩
    have hl2 : rs.length ≤ 64 := by omega
    clear hrl
    go_enter Try.func14, Try.ntmps14
    go_wp2
    go_loopw [5] (fun i wr => ∃ j : Nat, j ≤ rs.length ∧ i = .int .i64 j ∧ Hid (Dk wr B b g v ⟨setJ K.m rs j, K.p⟩) ∧ Hid (Chg w wr (fun k => k = g))) (fun i _ => rs.length - (intOf i).toNat)
    case atStart => exact ⟨0, by omega, rfl, HD0.out, Chg.refl _ _⟩
    case round =>
      obtain ⟨j, hj, rfl, HD, HC⟩ := hrel
      rename World => wr
      have hlen := setJ_len K.m rs j
      by_cases hlt : j < rs.length
      · have hltI : (j : Int) < rs.length := by omega
        have hjm : j < K.m.length := by have := HRL.out; omega
        have hjmI : (j : Int) < K.m.length := by omega
        have HSZ := keepG (fun (wx : World) (hc : Chg w wx (fun k => k = g)) => (HS.out wx hc).atB hlt)
        obtain ⟨p, off, ev, hp, hat⟩ := HSZ.out wr HC.out
        subst ev
        have hpg : ¬ p = g := hap2 p rfl
        have d0 := hat j hlt
        obtain ⟨q0, q1⟩ := HD.out.low
        simp only [hlen] at q0
        have ck := HD.out.at (k := j) (by simp only [hlen]; exact hjm)
        have fk := HD.out.mode.frozen j
        have hbg := HD.out.apart
        have hgb : ¬ g = b := fun e => hbg e.symm
        obtain ⟨y, HY⟩ : ∃ y, Hid ((setJ K.m rs j).getD j 0 = y) := ⟨_, rfl⟩
        obtain ⟨r, HR⟩ : ∃ r, Hid (rs.getD j false = r) := ⟨_, rfl⟩
        simp only [HY.out] at ck
        rw [HR.out] at d0
        have HT : Hid (setJ K.m rs (j + 1) = (setJ K.m rs j).set j (setO y r)) := by show _ = _; rw [← HY.out, ← HR.out]; rfl
        clear hat hlen
        by_cases hy : y = 2
        · subst hy
          have HD2 : Hid (Dk wr B b g v ⟨setJ K.m rs (j + 1), K.p⟩) := by
            have h2 : (setJ K.m rs j).set j (setO 2 r) = setJ K.m rs j := by
              have e : setO 2 r = (setJ K.m rs j).getD j 0 := by rw [HY.out]; rfl
              have hl2 := setJ_len K.m rs j
              have hjl : j < (setJ K.m rs j).length := by omega
              have e2 : (setJ K.m rs j).getD j 0 = (setJ K.m rs j)[j] := by simp [List.getD, hjl]
              rw [e, e2, List.set_getElem_self]
            rw [HT.out, h2]
            exact HD.out
          clear HT HY HD
          go_wp2
          go_roundw
          case rel => exact ⟨j + 1, by omega, by go_num, HD2.out, HC.out⟩
          case measure => simp [intOf]; omega
        · have hyb : (y == 2) = false := by simpa using hy
          have HD1 := keepG (HD.out.put j 0)
          have HC1 := keepG (HC.out.trans (Chg.set wr g j (.int .i64 0)) (fun _ _ e => e))
          obtain ⟨W1, HW1⟩ : ∃ W1, Hid (wr.setCell ⟨g, j, none⟩ (.int .i64 0) = W1) := ⟨_, rfl⟩
          rw [HW1.out] at HD1 HC1
          obtain ⟨s0, s1⟩ := HD1.out.low
          simp only [List.length_set, setJ_len K.m rs j] at s0
          have sk := HD1.out.at (k := j) (by simp only [List.length_set, setJ_len K.m rs j]; exact hjm)
          have sf := HD1.out.mode.frozen j
          have d1 : W1.cell? ⟨p, off + j, none⟩ = some (.bool r) := by
            obtain ⟨p', off', ev, _, hat2⟩ := HSZ.out _ HC1.out
            simp only [Option.some.injEq, Addr.mk.injEq, and_true] at ev
            obtain ⟨rfl, rfl⟩ := ev
            rw [hat2 j hlt, HR.out]
          generalize ((setJ K.m rs j).set j 0).getD j 0 = z0 at sk
          cases r with
          | false =>
            have HD2 : Hid (Dk W1 B b g v ⟨setJ K.m rs (j + 1), K.p⟩) := by
              have : setO y false = 0 := by unfold setO; rw [if_neg hy]; rfl
              rw [HT.out, this]
              exact HD1.out
            clear HT HY HD
            go_wp2_with (rw [HW1.out])
            go_roundw
            case rel => exact ⟨j + 1, by omega, by go_num, HD2.out, HC1.out⟩
            case measure => simp [intOf]; omega
          | true =>
            have HD2 : Hid (Dk (W1.setCell ⟨g, j, none⟩ (.int .i64 1)) B b g v ⟨setJ K.m rs (j + 1), K.p⟩) := by
              have h2 := HD1.out.put j 1
              have : setO y true = 1 := by unfold setO; rw [if_neg hy]; rfl
              rw [HT.out, this]
              simp only [List.set_set] at h2
              exact h2
            have HC2 := keepG (HC1.out.trans (Chg.set W1 g j (.int .i64 1)) (fun _ _ e => e))
            clear HT HY HD
            go_wp2_with (rw [HW1.out])
            go_roundw
            case rel => exact ⟨j + 1, by omega, by go_num, HD2.out, HC2.out⟩
            case measure => simp [intOf]; omega
      · have hltI : ¬ (j : Int) < rs.length := by omega
        have HD2 := HD.out
        have e : j = K.m.length := by have := HRL.out; omega
        rw [e, setJ_all HRL.out] at HD2
        have HD3 := keepG HD2
        clear HD2 HD hlen e
        go_wp2
        go_ret
        exact ⟨rfl, HD3.out, HC.out⟩
  · rw [if_neg hrl] at hq
    injection hq with e1 e2
    subst e1 e2
    have hrb : ((rs.length : Int) != K.m.length) = true := by simp; omega
    clear hrl
    go_enter Try.func14, Try.ntmps14
    go_wp2
    go_ret
    exact ⟨rfl, HD0.out, Chg.refl _ _⟩
end
end Go.Proofs.Ytnjmajcjdkceoaa
