/-
  T26Pz
  T26Rp
-/
import Derived.Test.YtbfbfbbpajaclaaDoorMB33
import Derived.Test.YtbfbfbbpajaclaaDoorMB25
/-
  Layer 26, landed, plain: an entry whose line's fields are emptied bears nothing but its mark just where it is plain. No Go text in sight.
-/
namespace Go.Proofs.YtbfbfbbpajaclaaDoor
open Go.RowKit
set_option linter.unusedVariables false
set_option linter.unusedSimpArgs false
set_option maxRecDepth 100000
/-- Fields emptied. -/
def zE (e : En) (f : List UInt8) : En := f.foldl (fun e c => putE e c.toNat 0 0) e
theorem zE_snoc (e : En) (f : List UInt8) (c : UInt8) : zE e (f ++ [c]) = putE (zE e f) c.toNat 0 0 := by unfold zE; rw [List.foldl_append]; rfl
theorem zE_wh (e : En) (f : List UInt8) : (zE e f).wh = e.wh := by
  induction f generalizing e with
  | nil => rfl
  | cons c f ih => show (zE (putE e c.toNat 0 0) f).wh = _; rw [ih, put_wh]
theorem zE_ou (e : En) (f : List UInt8) : (zE e f).ou = e.ou := by
  induction f generalizing e with
  | nil => rfl
  | cons c f ih => show (zE (putE e c.toNat 0 0) f).ou = _; rw [ih, put_ou]
theorem zero_put (e : En) (m : Int) (o : Bool) {c : UInt8} (hc : c ∈ allL) : Eq26 (putE e c.toNat 0 0) (startM m o) c := by
  cases hu : (unE e c.toNat).2 with
  | true =>
    refine ⟨?_, fun h => by rw [un_snd (startM m o) e] at h; rw [hu] at h; cases h⟩
    rw [put_un e 0 0 hc hu]
    exact Prod.ext (start_un m o c.toNat).symm (by rw [un_snd (startM m o) e, hu])
  | false =>
    obtain ⟨p1, p2⟩ := put_sg e 0 0 hc hu (fun _ => .inl rfl)
    refine ⟨?_, fun _ => by rw [p2, start_sg]⟩
    rw [p1]
    exact (un_no (by rw [un_snd (startM m o) e, hu])).symm
theorem zE_field : ∀ (f : List UInt8) (e : En) (m : Int) (o : Bool), (∀ c ∈ f, c ∈ allL) → ∀ c ∈ allL, (c ∈ f → Eq26 (zE e f) (startM m o) c) ∧ (c ∉ f → Eq26 (zE e f) e c)
  | [], e, m, o, _, c, _ => ⟨(fun h => by cases h), fun _ => Eq26.rfl' e c⟩
  | d :: f, e, m, o, hf, c, hc => by
    have hd := hf d (by simp)
    obtain ⟨a1, a2⟩ := zE_field f (putE e d.toNat 0 0) m o (fun x hx => hf x (by simp [hx])) c hc
    by_cases hcf : c ∈ f
    · exact ⟨fun _ => a1 hcf, fun h => absurd (List.mem_cons_of_mem _ hcf) h⟩
    · by_cases hcd : c = d
      · subst hcd
        exact ⟨fun _ => (a2 hcf).trans (zero_put e m o hd), fun h => absurd (by simp) h⟩
      · refine ⟨fun h => ?_, fun _ => (a2 hcf).trans (put_other e 0 0 hc hd hcd)⟩
        rcases List.mem_cons.1 h with g | g
        · exact absurd g hcd
        · exact absurd g hcf
theorem ltr_ne {e : En} (h : ltrE e ≠ []) : 1 ≤ e.wh ∧ e.wh ≤ 17 := by
  unfold ltrE at h
  split at h
  · assumption
  · exact absurd rfl h
theorem fld_ne : ∀ (k : Fin 17) (o : Bool), fldL ((k.val : Int) + 1) o ≠ [] := by decide +kernel
theorem ltr_mark {e : En} (hm : 1 ≤ e.wh ∧ e.wh ≤ 17) : ltrE e ≠ [] := by
  unfold ltrE
  rw [if_pos hm]
  have := fld_ne ⟨(e.wh - 1).toNat, by omega⟩ e.ou
  rwa [show (((e.wh - 1).toNat : Nat) : Int) + 1 = e.wh by omega] at this
/-- Is the entry with its line's fields emptied, and without Out where the line tells it, one of nothing but its mark? -/
def dryE (e : En) : En := if Lib.hasSuffix (ltrE e) [79, 86] = true then { zE e (ltrE e) with ou := false } else zE e (ltrE e)
theorem eq_zero {a : En} {m : Int} {o : Bool} {c : UInt8} (h : Eq26 a (startM m o) c) : (if (unE a c.toNat).2 = true then (unE a c.toNat).1 == 0 else sgE a c.toNat == 0) = true := by
  cases hu : (unE a c.toNat).2 with
  | true => rw [if_pos rfl, h.1, start_un]; rfl
  | false => rw [if_neg (by decide), h.2 (by rw [un_snd (startM m o) a, hu]), start_sg]; rfl
theorem zero_eq {a : En} (m : Int) (o : Bool) {c : UInt8} (h : (if (unE a c.toNat).2 = true then (unE a c.toNat).1 == 0 else sgE a c.toNat == 0) = true) : Eq26 a (startM m o) c := by
  cases hu : (unE a c.toNat).2 with
  | true =>
    rw [if_pos hu] at h
    refine ⟨Prod.ext ?_ (un_snd _ _ _), fun h' => by rw [un_snd (startM m o) a, hu] at h'; cases h'⟩
    rw [start_un]; simpa using h
  | false =>
    rw [if_neg (by rw [hu]; decide)] at h
    refine ⟨?_, fun _ => by rw [start_sg]; simpa using h⟩
    rw [un_no hu]
    exact (un_no (by rw [un_snd (startM m o) a, hu])).symm
theorem ou_apart (a : En) (o : Bool) (c : UInt8) : Eq26 { a with ou := o } a c := ⟨rfl, fun _ => rfl⟩
theorem plain_iff (e : En) : plainE e = (!(ltrE e).isEmpty && eqZ (dryE e)) := by
  by_cases hm : 1 ≤ e.wh ∧ e.wh ≤ 17
  · have hL : ltrE e = fldL e.wh e.ou := by unfold ltrE; rw [if_pos hm]
    have hne := ltr_mark hm
    have hie : (ltrE e).isEmpty = false := by simpa using hne
    rw [hie, Bool.not_false, Bool.true_and]
    have hmem : ∀ c ∈ ltrE e, c ∈ allL := fun c hc => (ltrE_mem hc).1
    have hsuf := suf_ltr e
    have hwh : (dryE e).wh = e.wh := by unfold dryE; split <;> exact zE_wh _ _
    have hou : (dryE e).ou = (e.ou && !(e.ou && inL26 (ltrE e) 121)) := by
      unfold dryE
      rw [hsuf]
      cases h : (e.ou && inL26 (ltrE e) 121) with
      | true => simp
      | false => simp [zE_ou]
    have hdr : ∀ c, Eq26 (dryE e) (zE e (ltrE e)) c := fun c => by
      unfold dryE
      split
      · exact ou_apart _ _ _
      · exact Eq26.rfl' _ _
    have hsym : ∀ {a b : En} {c : UInt8}, Eq26 a b c → Eq26 b a c := fun {a b c} h => ⟨h.1.symm, fun g => (h.2 (by rw [un_snd b a]; exact g)).symm⟩
    rw [Bool.eq_iff_iff, eqZ_iff, hwh]
    unfold plainE
    rw [Bool.and_eq_true, Bool.and_eq_true]
    constructor
    · rintro ⟨⟨_, hz⟩, ho⟩
      refine en_ext hwh ?_ (fun c hc => (hdr c).trans ?_)
      · show (dryE e).ou = false
        rw [hou, hL]
        cases h1 : e.ou with
        | false => rfl
        | true => rw [h1] at ho; simp at ho; simp [ho]
      · obtain ⟨a1, a2⟩ := zE_field (ltrE e) e e.wh false hmem c hc
        by_cases hcf : c ∈ ltrE e
        · exact a1 hcf
        · refine (a2 hcf).trans (zero_eq e.wh false ?_)
          have := List.all_eq_true.1 hz c hc
          unfold zeroE at this
          rw [← hL] at this
          rw [Bool.or_eq_true] at this
          rcases this with g | g
          · exact absurd (inL_iff.1 g) hcf
          · exact g
    · intro h
      refine ⟨⟨decide_eq_true hm, List.all_eq_true.2 (fun c hc => ?_)⟩, ?_⟩
      · unfold zeroE
        rw [← hL]
        by_cases hcf : c ∈ ltrE e
        · rw [inL_iff.2 hcf]; rfl
        · obtain ⟨a1, a2⟩ := zE_field (ltrE e) e e.wh false hmem c hc
          have h3 : Eq26 e (startM e.wh false) c := (hsym (a2 hcf)).trans ((hsym (hdr c)).trans (by rw [h]; exact Eq26.rfl' _ _))
          rw [eq_zero h3, Bool.or_true]
      · have h4 : (dryE e).ou = false := by rw [h]; rfl
        rw [hou, hL] at h4
        cases h1 : e.ou with
        | false => rfl
        | true => rw [h1] at h4; simp at h4; simp [h4]
  · have hL : ltrE e = [] := by unfold ltrE; rw [if_neg hm]
    rw [hL]
    unfold plainE
    rw [decide_eq_false hm]
    rfl
end Go.Proofs.YtbfbfbbpajaclaaDoor
/-
  Layer 26, landed, plain: a line read loosely, then held against what is written of it, is what the document reads. No Go text in sight.
-/
namespace Go.Proofs.YtbfbfbbpajaclaaDoor
open Go.RowKit
set_option linter.unusedVariables false
set_option linter.unusedSimpArgs false
set_option maxRecDepth 100000
/-- What stands behind a name and a blank. -/
def joinB (e : En) : List UInt8 → List UInt8
  | [] => []
  | c :: f => wd1 e c ++ f.flatMap (wdE e)
theorem joinB_cut (e : En) {c : UInt8} (hc : c ≠ 32) (f : List UInt8) : (cutL 32 (joinB e (c :: f))).1 = wd1 e c ∧ (cutL 32 (joinB e (c :: f))).2.1 = joinB e f := by
  have hs := wd1_sp e hc
  cases f with
  | nil =>
    have : joinB e [c] = wd1 e c := by simp [joinB]
    rw [this, cutL_none 32 _ hs]
    exact ⟨rfl, rfl⟩
  | cons d g =>
    have : joinB e (c :: d :: g) = wd1 e c ++ 32 :: joinB e (d :: g) := by
      show wd1 e c ++ (d :: g).flatMap (wdE e) = _
      rw [List.flatMap_cons, wdE_wd1]; rfl
    rw [this, cutL_some 32 _ _ hs]
    exact ⟨rfl, rfl⟩
theorem line_cut {e : En} (hm : 1 ≤ e.wh ∧ e.wh ≤ 17) : (cutL 32 (lineE e)).1 = nmE e.wh ∧ (cutL 32 (lineE e)).2.1 = joinB e (fldL e.wh e.ou) := by
  have hs : ∀ c ∈ nmE e.wh, c ≠ 32 := fun c hc => by
    have := nm_sp ⟨e.wh.toNat, by omega⟩
    rw [show ((e.wh.toNat : Nat) : Int) = e.wh by omega] at this
    have := List.all_eq_true.1 this c hc
    simpa using this
  have hf := ltr_mark hm
  unfold ltrE at hf
  rw [if_pos hm] at hf
  unfold lineE
  cases h : fldL e.wh e.ou with
  | nil => exact absurd h hf
  | cons c f =>
    have : nmE e.wh ++ (c :: f).flatMap (wdE e) = nmE e.wh ++ 32 :: joinB e (c :: f) := by rw [List.flatMap_cons, wdE_wd1]; rfl
    rw [this, cutL_some 32 _ _ hs]
    exact ⟨rfl, rfl⟩
theorem findE_name {m : Int} (hm : 1 ≤ m ∧ m ≤ 17) : findE (nmE m) = m := by
  obtain ⟨k, rfl⟩ : ∃ k : Nat, m = k := ⟨m.toNat, by omega⟩
  unfold findE
  rw [markF_some 17 1 k (fun j h1 h2 he => by
    have := nm_apart ⟨j - 1, by omega⟩ ⟨k - 1, by omega⟩ (by
      show nmE (((j - 1 : Nat) : Int) + 1) = nmE (((k - 1 : Nat) : Int) + 1)
      rw [show (((j - 1 : Nat) : Int) + 1) = j by omega, show (((k - 1 : Nat) : Int) + 1) = k by omega]
      exact he)
    have := congrArg Fin.val this
    simp at this
    omega) (by omega) (by omega) rfl]
theorem digF_79 (f u : Nat) : ∀ c ∈ digF f u, c ≠ 79 := by
  intro c hc he
  subst he
  have := digF_dig _ _ _ hc
  revert this; decide
theorem numL_79 (n : Int) : ∀ c ∈ numL n, c ≠ 79 := by
  intro c hc
  by_cases h0 : n < 0
  · rw [numL_neg h0] at hc
    rcases List.mem_cons.1 hc with g | g
    · rw [g]; decide
    · exact digF_79 _ _ c g
  · rw [numL_pos h0] at hc
    exact digF_79 _ _ c hc
theorem dgE_79 (e : En) (c : UInt8) : (79 : UInt8) ∉ dgE e c := by
  intro h
  unfold dgE at h
  split at h
  · exact digF_79 _ _ _ h rfl
  · exact numL_79 _ _ h rfl
theorem flat_79 (e : En) (f : List UInt8) : (79 : UInt8) ∈ f.flatMap (wdE e) ↔ 79 ∈ f := by
  induction f with
  | nil => simp
  | cons c f ih =>
    rw [List.flatMap_cons, List.mem_append, ih, List.mem_cons]
    have : (79 : UInt8) ∈ wdE e c ↔ 79 = c := by
      rw [wdE_dg]
      constructor
      · intro h
        rcases List.mem_cons.1 h with g | g
        · exact absurd g (by decide)
        · rcases List.mem_cons.1 g with g | g
          · exact g
          · exact absurd g (dgE_79 e c)
      · rintro rfl; simp
    rw [this]
theorem join_79 (e : En) (f : List UInt8) : (79 : UInt8) ∈ joinB e f ↔ 79 ∈ f := by
  cases f with
  | nil => simp [joinB]
  | cons c f =>
    show (79 : UInt8) ∈ wd1 e c ++ f.flatMap (wdE e) ↔ _
    rw [List.mem_append, flat_79, List.mem_cons, wd1_dg]
    have : (79 : UInt8) ∈ (c :: dgE e c) ↔ 79 = c := by
      rw [List.mem_cons]
      exact ⟨fun h => h.elim id (fun g => absurd g (dgE_79 e c)), .inl⟩
    rw [this]
theorem out_in : ∀ (k : Fin 17) (o : Bool), (fldL ((k.val : Int) + 1) o).contains 79 = (o && inL26 (fldL ((k.val : Int) + 1) o) 121) := by decide +kernel
theorem out_tell {e : En} (hm : 1 ≤ e.wh ∧ e.wh ≤ 17) (hp : plainE e = true) : (joinB e (fldL e.wh e.ou)).contains 79 = e.ou := by
  have h1 := out_in ⟨(e.wh - 1).toNat, by omega⟩ e.ou
  rw [show (((e.wh - 1).toNat : Nat) : Int) + 1 = e.wh by omega] at h1
  have h2 : (joinB e (fldL e.wh e.ou)).contains 79 = (fldL e.wh e.ou).contains 79 := by
    rw [Bool.eq_iff_iff, List.contains_iff_mem, List.contains_iff_mem, join_79]
  rw [h2, h1]
  unfold plainE at hp
  rw [Bool.and_eq_true] at hp
  have ho := hp.2
  cases h : e.ou with
  | false => rfl
  | true => rw [h] at ho; simpa using ho
theorem plain_mark {e : En} (hp : plainE e = true) : 1 ≤ e.wh ∧ e.wh ≤ 17 := by
  unfold plainE at hp
  rw [Bool.and_eq_true, Bool.and_eq_true] at hp
  exact of_decide_eq_true hp.1.1
/-- How far a loose reading has come. -/
def Loose (l : List UInt8) (m : Int) (o : Bool) (rest done : List UInt8) (cur : En) (behind : List UInt8) : Prop :=
  cur.wh = m ∧ cur.ou = o ∧ (1 ≤ m ∧ m ≤ 17 → cur.wf) ∧ ∀ e : En, e.wf → plainE e = true → lineE e = l → e.wh = m ∧ e.ou = o ∧ behind = joinB e rest ∧ ∀ c ∈ allL, (c ∈ done → Eq26 cur e c) ∧ (c ∉ done → Eq26 cur (startM m o) c)
theorem loose_start (l : List UInt8) : Loose l (findE (cutL 32 l).1) ((cutL 32 l).2.1.contains 79) (ltrE (startM (findE (cutL 32 l).1) ((cutL 32 l).2.1.contains 79))) [] (startM (findE (cutL 32 l).1) ((cutL 32 l).2.1.contains 79)) (cutL 32 l).2.1 := by
  refine ⟨rfl, rfl, fun hm => startM_wf hm _, fun e hw hp hl => ?_⟩
  have hm := plain_mark hp
  obtain ⟨h1, h2⟩ := line_cut hm
  rw [hl] at h1 h2
  rw [h1, h2, findE_name hm, out_tell hm hp]
  refine ⟨rfl, rfl, ?_, fun c hc => ⟨(fun h => by cases h), fun _ => Eq26.rfl' _ _⟩⟩
  have : ltrE (startM e.wh e.ou) = fldL e.wh e.ou := by
    unfold ltrE
    exact if_pos hm
  rw [this]
theorem loose_step {l : List UInt8} {m : Int} {o : Bool} {c : UInt8} {rest done : List UInt8} {cur : En} {behind : List UInt8} (h : Loose l m o (c :: rest) done cur behind) (hc : c ∈ allL) (h32 : c ≠ 32) {k n : Int} (hg : Got (trimE (cutL 32 behind).1 c) k n) :
    Loose l m o rest (done ++ [c]) (putE cur c.toNat k n) (cutL 32 behind).2.1 := by
  obtain ⟨h1, h2, h3, h4⟩ := h
  refine ⟨(put_wh _ _ _ _).trans h1, (put_ou _ _ _ _).trans h2, fun hm => putE_wf' (h3 hm) hg, fun e hw hp hl => ?_⟩
  obtain ⟨g1, g2, g3, g4⟩ := h4 e hw hp hl
  obtain ⟨j1, j2⟩ := joinB_cut e h32 rest
  rw [← g3] at j1 j2
  refine ⟨g1, g2, j2, fun d hd => ?_⟩
  have hb : Got (dgE e c) k n := by rw [j1, wd1_dg, trim_cons] at hg; exact hg
  by_cases hdc : d = c
  · subst hdc
    exact ⟨fun _ => Got.back hw hc hb, fun hn => absurd (by simp) hn⟩
  · obtain ⟨a1, a2⟩ := g4 d hd
    refine ⟨fun hm => (put_other cur k n hd hc hdc).trans (a1 ?_), fun hn => (put_other cur k n hd hc hdc).trans (a2 (fun x => hn (by simp [x])))⟩
    rcases List.mem_append.1 hm with g | g
    · exact g
    · exact absurd (by simpa using g) hdc
theorem eq_sym {a b : En} {c : UInt8} (h : Eq26 a b c) : Eq26 b a c := ⟨h.1.symm, fun g => (h.2 (by rw [un_snd b a]; exact g)).symm⟩
theorem loose_end {l : List UInt8} {m : Int} {o : Bool} {cur : En} {behind : List UInt8} (h : Loose l m o [] (ltrE (startM m o)) cur behind) : readE l = if plainE cur = true ∧ lineE cur = l then some cur else none := by
  obtain ⟨h1, h2, h3, h4⟩ := h
  by_cases hq : plainE cur = true ∧ lineE cur = l
  · rw [if_pos hq]
    have hm := plain_mark hq.1
    rw [h1] at hm
    have := readE_line (h3 hm) hq.1
    rw [hq.2] at this
    exact this
  · rw [if_neg hq]
    cases hr : readE l with
    | none => rfl
    | some e =>
      exfalso
      obtain ⟨r1, r2, r3⟩ := readE_some hr
      obtain ⟨g1, g2, g3, g4⟩ := h4 e r1 r2 r3
      have hm := plain_mark r2
      have hL : ltrE (startM m o) = fldL e.wh e.ou := by
        unfold ltrE
        rw [g1] at hm ⊢
        rw [g2]
        exact if_pos hm
      have : cur = e := by
        refine en_ext (h1.trans g1.symm) (h2.trans g2.symm) (fun c hc => ?_)
        obtain ⟨a1, a2⟩ := g4 c hc
        by_cases hcf : c ∈ ltrE (startM m o)
        · exact a1 hcf
        · refine (a2 hcf).trans (eq_sym (zero_eq m o ?_))
          have hz := r2
          unfold plainE at hz
          rw [Bool.and_eq_true, Bool.and_eq_true] at hz
          have := List.all_eq_true.1 hz.1.2 c hc
          unfold zeroE at this
          rw [← hL, Bool.or_eq_true] at this
          rcases this with g | g
          · exact absurd (inL_iff.1 g) hcf
          · exact g
      subst this
      exact hq ⟨r2, r3⟩
end Go.Proofs.YtbfbfbbpajaclaaDoor
