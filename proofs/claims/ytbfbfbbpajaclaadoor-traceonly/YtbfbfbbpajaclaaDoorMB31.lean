/-
  X26Bk3
  X26Bk4
  R26L
-/
import Derived.Test.YtbfbfbbpajaclaaDoorMB30
import Derived.Test.YtbfbfbbpajaclaaDoorMB29
/-
  Layer 26's lines, plain: an entry is read back from its line just where it is plain. No Go text in sight.
-/
namespace Go.Proofs.YtbfbfbbpajaclaaDoor
open Go.RowKit
set_option linter.unusedVariables false
set_option linter.unusedSimpArgs false
set_option maxRecDepth 100000
theorem fld_mem {m : Int} (hm : 1 ≤ m ∧ m ≤ 17) {o : Bool} {c : UInt8} (hc : c ∈ fldL m o) : c ∈ allL ∧ c ≠ 32 := by
  obtain ⟨k, rfl⟩ : ∃ k : Nat, m = k := ⟨m.toNat, by omega⟩
  have h := List.all_eq_true.1 (fld_in ⟨k, by omega⟩ o) c hc
  simp only [Bool.and_eq_true, bne_iff_ne, ne_eq] at h
  exact ⟨List.contains_iff_mem.1 h.1, h.2⟩
theorem put_back {e e0 : En} (hw : e.wf) {c : UInt8} (hc : c ∈ allL) : ∃ k n, setE e0 c (wd1 e c) = (putE e0 c.toNat k n, true) ∧ Eq26 (putE e0 c.toNat k n) e c := by
  have hb := hw.un c.toNat
  have hs := hw.si c.toNat
  cases hu : (unE e c.toNat).2 with
  | true =>
    have h2 : wd1 e c = c :: digF 20 (unE e c.toNat).1.toNat := by unfold wd1; rw [if_pos hu]
    obtain ⟨k, hk⟩ := setE_dig e0 c (u := (unE e c.toNat).1.toNat) (by omega)
    refine ⟨k, _, by rw [h2]; exact hk, ?_, fun h => by rw [hu] at h; cases h⟩
    rw [put_un e0 _ _ hc (by rw [un_snd e0 e]; exact hu)]
    rw [← hu]
    have : (((unE e c.toNat).1.toNat : Nat) : Int) = (unE e c.toNat).1 := by omega
    rw [this]
  | false =>
    have h2 : wd1 e c = c :: numL (sgE e c.toNat) := by unfold wd1; rw [if_neg (by rw [hu]; decide)]
    obtain ⟨n, hn⟩ := setE_num e0 c hs
    have h98 : c = 98 → sgE e c.toNat = 0 ∨ sgE e c.toNat = 1 := fun h => by
      subst h
      show (if e.fo = true then (1 : Int) else 0) = 0 ∨ (if e.fo = true then (1 : Int) else 0) = 1
      cases e.fo <;> simp
    obtain ⟨p1, p2⟩ := put_sg e0 (sgE e c.toNat) n hc (by rw [un_snd e0 e]; exact hu) h98
    refine ⟨_, n, by rw [h2]; exact hn, ?_, fun _ => p2⟩
    rw [p1, un_no hu]
/-- Fields set out of their words. -/
theorem goE_back {e : En} (hw : e.wf) : ∀ (f : List UInt8) (e0 : En), (∀ c ∈ f, c ∈ allL) → ∃ r, goE e0 f (f.map (wd1 e)) = some r ∧ r.wh = e0.wh ∧ r.ou = e0.ou ∧ ∀ c ∈ allL, (c ∈ f → Eq26 r e c) ∧ (c ∉ f → Eq26 r e0 c)
  | [], e0, _ => ⟨e0, rfl, rfl, rfl, fun c _ => ⟨(fun h => by cases h), fun _ => Eq26.rfl' e0 c⟩⟩
  | d :: f, e0, hf => by
    obtain ⟨k, n, h1, h2⟩ := put_back (e0 := e0) hw (hf d (by simp))
    obtain ⟨r, g1, g2, g3, g4⟩ := goE_back hw f (putE e0 d.toNat k n) (fun c hc => hf c (by simp [hc]))
    refine ⟨r, ?_, g2.trans (put_wh _ _ _ _), g3.trans (put_ou _ _ _ _), fun c hc => ?_⟩
    · show (if (setE e0 d (((d :: f).map (wd1 e)).getD 0 [])).2 = true then goE (setE e0 d (((d :: f).map (wd1 e)).getD 0 [])).1 f (((d :: f).map (wd1 e)).drop 1) else none) = _
      have h0 : ((d :: f).map (wd1 e)).getD 0 [] = wd1 e d := rfl
      rw [h0, h1, if_pos rfl]
      exact g1
    · obtain ⟨a1, a2⟩ := g4 c hc
      by_cases hcf : c ∈ f
      · exact ⟨fun _ => a1 hcf, fun h => absurd (List.mem_cons_of_mem _ hcf) h⟩
      · by_cases hcd : c = d
        · subst hcd
          exact ⟨fun _ => (a2 hcf).trans h2, fun h => absurd (by simp) h⟩
        · refine ⟨fun h => ?_, fun _ => (a2 hcf).trans (put_other e0 k n hc (hf d (by simp)) hcd)⟩
          rcases List.mem_cons.1 h with g | g
          · exact absurd g hcd
          · exact absurd g hcf
theorem goE_only : ∀ (f : List UInt8) (e0 : En) (ts : List (List UInt8)) {r : En}, (∀ c ∈ f, c ∈ allL) → goE e0 f ts = some r → r.wh = e0.wh ∧ r.ou = e0.ou ∧ (e0.wf → r.wf) ∧ ∀ c ∈ allL, c ∉ f → Eq26 r e0 c
  | [], e0, ts, r, _, h => by
    injection h with h
    subst h
    exact ⟨rfl, rfl, fun h => h, fun c _ _ => Eq26.rfl' e0 c⟩
  | d :: f, e0, ts, r, hf, h => by
    have h : (if (setE e0 d (ts.getD 0 [])).2 = true then goE (setE e0 d (ts.getD 0 [])).1 f (ts.drop 1) else none) = some r := h
    split at h
    · rename_i hs
      obtain ⟨g1, g2, g3, g4⟩ := goE_only f _ _ (fun c hc => hf c (by simp [hc])) h
      have hput : ∃ k n, (setE e0 d (ts.getD 0 [])).1 = putE e0 d.toNat k n := by
        revert hs
        unfold setE
        split
        · intro hs; cases hs
        split
        · intro hs; cases hs
        generalize accL 0 (if negL (ts.getD 0 []) = true then (ts.getD 0 []).drop 2 else (ts.getD 0 []).drop 1) = q
        cases q with
        | none => intro hs; cases hs
        | some n => intro _; exact ⟨_, _, rfl⟩
      obtain ⟨k, n, hk⟩ := hput
      refine ⟨by rw [g1, hk, put_wh], by rw [g2, hk, put_ou], fun hw => g3 (setE_wf hw _ _), fun c hc hcf => ?_⟩
      have hcd : c ≠ d := fun e => hcf (by simp [e])
      refine (g4 c hc (fun e => hcf (by simp [e]))).trans ?_
      rw [hk]
      exact put_other e0 k n hc (hf d (by simp)) hcd
    · cases h
end Go.Proofs.YtbfbfbbpajaclaaDoor
/-
  Layer 26's lines, plain: what the document reads is just the plain entries' lines. No Go text in sight.
-/
namespace Go.Proofs.YtbfbfbbpajaclaaDoor
open Go.RowKit
set_option linter.unusedVariables false
set_option linter.unusedSimpArgs false
set_option maxRecDepth 100000
theorem markF_in {w0 : List UInt8} : ∀ (k m n : Nat), markF w0 m k = some n → m ≤ n ∧ n < m + k ∧ nmE n = w0
  | 0, m, n, h => by cases h
  | k + 1, m, n, h => by
    unfold markF at h
    split at h
    · rename_i g
      injection h with h
      subst h
      exact ⟨Nat.le_refl _, by omega, g⟩
    · obtain ⟨h1, h2, h3⟩ := markF_in k (m + 1) n h
      exact ⟨by omega, by omega, h3⟩
theorem start_un (m : Int) (o : Bool) (c : Nat) : (unE (startM m o) c).1 = 0 := by
  unfold unE startM En.nil
  simp only
  repeat' split
  all_goals rfl
theorem start_sg (m : Int) (o : Bool) (c : Nat) : sgE (startM m o) c = 0 := by unfold sgE startM En.nil; simp
theorem inL_iff {f : List UInt8} {c : UInt8} : inL26 f c = true ↔ c ∈ f := by unfold inL26; exact List.contains_iff_mem
/-- What is read is plain, of its kinds, and has this line. -/
theorem readE_some {s : List UInt8} {e : En} (h : readE s = some e) : e.wf ∧ plainE e = true ∧ lineE e = s := by
  unfold readE at h
  cases hm : markF ((wordsL s).headD []) 1 17 with
  | none => rw [hm] at h; cases h
  | some m =>
    rw [hm] at h
    obtain ⟨m1, m2, -⟩ := markF_in 17 1 m hm
    have h : readM m ((wordsL s).drop 1) s = some e := h
    rw [readM_rest] at h
    generalize (wordsL s).drop 1 = ts at h
    unfold restE at h
    split at h
    · rename_i hlen
      cases hg : goE (startM m (outB m ts)) (fldL m (outB m ts)) ts with
      | none => rw [hg] at h; cases h
      | some e' =>
        rw [hg] at h
        have h : (if lineE e' = s then some e' else none) = some e := h
        split at h
        · rename_i hl
          injection h with h
          subst h
          have hmm : (1 : Int) ≤ m ∧ (m : Int) ≤ 17 := by omega
          obtain ⟨g1, g2, g3, g4⟩ := goE_only _ _ _ (fun c hc => (fld_mem hmm hc).1) hg
          have g1 : e'.wh = m := g1
          have g2 : e'.ou = outB m ts := g2
          refine ⟨g3 (startM_wf hmm _), ?_, hl⟩
          unfold plainE
          rw [g1, g2, decide_eq_true hmm, Bool.true_and, Bool.and_eq_true]
          refine ⟨List.all_eq_true.2 (fun c hc => ?_), ?_⟩
          · unfold zeroE
            by_cases hcf : c ∈ fldL m (outB m ts)
            · rw [inL_iff.2 hcf]; rfl
            · obtain ⟨a1, a2⟩ := g4 c hc hcf
              rw [a1]
              cases hu : (unE (startM m (outB m ts)) c.toNat).2 with
              | true => rw [start_un]; simp
              | false => rw [a2 hu, start_sg]; simp
          · cases ho : outB m ts with
            | false => rfl
            | true =>
              unfold outB at ho
              rw [Bool.and_eq_true] at ho
              have h2 := (fld_out ⟨m, by omega⟩).1
              show (!true || inL26 (fldL m true) 121) = true
              rw [show inL26 (fldL (m : Int) true) 121 = inL26 (fldL (m : Int) false) 121 from h2, ho.2]
              rfl
        · cases h
    · cases h
/-- A plain entry is read out of its line. -/
theorem readE_line {e : En} (hw : e.wf) (hp : plainE e = true) : readE (lineE e) = some e := by
  unfold plainE at hp
  rw [Bool.and_eq_true, Bool.and_eq_true] at hp
  obtain ⟨⟨hm, hz⟩, ho⟩ := hp
  have hm := of_decide_eq_true hm
  obtain ⟨m, hmm⟩ : ∃ m : Nat, e.wh = m := ⟨e.wh.toNat, by omega⟩
  have hm2 : (1 : Int) ≤ m ∧ (m : Int) ≤ 17 := by omega
  have hws : wordsL (lineE e) = nmE m :: (fldL m e.ou).map (wd1 e) := by
    unfold lineE
    rw [hmm]
    refine words_flat e _ _ (fun c hc => (fld_mem hm2 hc).2) (fun c hc => ?_)
    have := List.all_eq_true.1 (nm_sp ⟨m, by omega⟩) c hc
    simpa using this
  have hmk : markF (nmE m) 1 17 = some m := markF_some 17 1 m (fun j h1 h2 he => by
    have := nm_apart ⟨j - 1, by omega⟩ ⟨m - 1, by omega⟩ (by
      show nmE (((j - 1 : Nat) : Int) + 1) = nmE (((m - 1 : Nat) : Int) + 1)
      rw [show (((j - 1 : Nat) : Int) + 1) = j by omega, show (((m - 1 : Nat) : Int) + 1) = m by omega]
      exact he)
    have := congrArg Fin.val this
    simp at this
    omega) (by omega) (by omega) rfl
  have hout : outB m ((fldL m e.ou).map (wd1 e)) = e.ou := by
    unfold outB
    rw [List.length_map]
    cases hou : e.ou with
    | false =>
      have : ¬ (fldL m false).length + 1 = (fldL m false).length + 3 := by omega
      rw [beq_eq_false_iff_ne.2 this]
      rfl
    | true =>
      rw [hou, hmm] at ho
      have h121 : inL26 (fldL m true) 121 = true := by simpa using ho
      obtain ⟨f1, f2⟩ := fld_out ⟨m, by omega⟩
      have f1 : inL26 (fldL m true) 121 = inL26 (fldL m false) 121 := f1
      have f2 : (fldL m true).length = (fldL m false).length + 2 := f2 h121
      rw [← f1, h121, f2]
      simp
  unfold readE
  rw [hws]
  show (match markF (nmE m) 1 17 with | none => none | some m' => readM m' ((fldL m e.ou).map (wd1 e)) (lineE e)) = some e
  rw [hmk]
  show readM m ((fldL m e.ou).map (wd1 e)) (lineE e) = some e
  rw [readM_rest, hout]
  unfold restE
  rw [if_pos (by rw [List.length_map])]
  obtain ⟨r, g1, g2, g3, g4⟩ := goE_back hw (fldL m e.ou) (startM m e.ou) (fun c hc => (fld_mem hm2 hc).1)
  rw [g1]
  have hre : r = e := by
    refine en_ext (g2.trans hmm.symm) g3 (fun c hc => ?_)
    by_cases hcf : c ∈ fldL m e.ou
    · exact (g4 c hc).1 hcf
    · refine ((g4 c hc).2 hcf).trans ?_
      have h0 := List.all_eq_true.1 hz c hc
      unfold zeroE at h0
      rw [hmm, Bool.eq_false_iff.2 (fun h => hcf (inL_iff.1 h)), Bool.false_or] at h0
      have hs := un_snd (startM m e.ou) e c.toNat
      cases hu : (unE e c.toNat).2 with
      | true =>
        rw [if_pos hu] at h0
        refine ⟨Prod.ext ?_ hs, fun h => by rw [hu] at h; cases h⟩
        rw [start_un]
        exact (by simpa using h0 : (unE e c.toNat).1 = 0).symm
      | false =>
        rw [if_neg (by rw [hu]; decide)] at h0
        refine ⟨Prod.ext ?_ hs, fun _ => ?_⟩
        · rw [start_un, un_no hu]
        · rw [start_sg]
          exact (by simpa using h0 : sgE e c.toNat = 0).symm
  subst hre
  show (if lineE r = lineE r then some r else none) = some r
  rw [if_pos rfl]
end Go.Proofs.YtbfbfbbpajaclaaDoor
/-
  What the document's Parse does: a text's entries, or the number of its first wrong line. Condition: the text is of four million bytes at most.
-/
namespace Go.Proofs.YtbfbfbbpajaclaaDoor
open Go.RowKit
set_option linter.unusedVariables false
set_option linter.unusedSimpArgs false
set_option maxRecDepth 100000
/-- A text read, line by line. -/
def parF26 (acc : List UInt8) (es : List En) : List UInt8 → List En × Int × Int
  | [] => if acc = [] then (es, 0, 0) else ([], (es.length : Int) + 1, 20)
  | c :: r => if c = 10 then (match readE acc with | none => ([], (es.length : Int) + 1, 20) | some e => parF26 [] (es ++ [e]) r) else parF26 (acc ++ [c]) es r
def parE (s : List UInt8) : List En × Int × Int := parF26 [] [] s
theorem ret3v26 {v : Value} {a a' b b' : Int} (h1 : a = a') (h2 : b = b') : Ending.returned (.tuple #[v, .int .i64 a, .int .i64 b]) = .returned (.tuple #[v, .int .i64 a', .int .i64 b']) := by rw [h1, h2]
theorem infoEn26 : (Tryd.prog.info? 36).map (fun i => (i.zero, i.size, i.bytes)) = some (some (.agg (enC En.nil).toArray), 22, 176) := by kernel_rfl
theorem one_en (w : World) (t : TypeId) (e : En) (n : Nat) (hn : n = w.heap.size) : ∀ j u, (flatG enC [e])[j]? = some u → (w.alloc (.cells (enC e).toArray t)).cell? ((⟨n, 0, none⟩ : Addr).add j) = some u := by
  intro j u hj
  refine cells_new w (enC e) t n hn j u ?_
  simpa [flatG] using hj
theorem one_cellE (e : En) : ∀ u ∈ flatG enC [e], u.oneCell' = true := by
  intro v hv
  rw [show flatG enC [e] = enC e by simp [flatG]] at hv
  have h := oneEn e
  rw [Array.all_eq_true_iff_forall_mem] at h
  exact h v (by simpa using hv)
set_option maxHeartbeats 6400000 in
theorem parse26 (l : List UInt8) (w : World) (hl : l.length ≤ 4194304) : Calls Tryd.prog 17 #[.string (str l)] w fun r w' => ∃ v, r = .returned (.tuple #[v, .int .i64 (parE l).2.1, .int .i64 (parE l).2.2]) ∧ w'.ownsRow w.heap.size 36 22 v (parE l).1.length (flatG enC (parE l).1) ∧ Below w.heap.size w w' := by
  obtain ⟨i0, hi, hz0, hz1, hz2⟩ := info_parts infoEn26
  go_enter Tryd.func17, Tryd.ntmps17
  go_wp2_with fail
  go_loopw [5, 6, 7] (fun v f i wr => ∃ (k a : Nat) (done : List En), i = .int .i64 k ∧ f = .int .i64 a ∧ done.length ≤ k ∧ k ≤ l.length ∧ a ≤ k ∧ parE l = parF26 ((l.drop a).take (k - a)) done (l.drop k) ∧ wr.ownsRow w.heap.size 36 22 v done.length (flatG enC done) ∧ Below w.heap.size w wr) (fun _ _ i _ => l.length - (intOf i).toNat)
  case atStart => exact ⟨0, 0, [], rfl, rfl, by simp, by omega, by omega, by simp [parE], World.ownsRow_nil _ _ _ _, Below.refl _ _⟩
  case round =>
    rename World => wr
    obtain ⟨k, a, done, rfl, rfl, hdk, hk, hak, hT, hown, hbe⟩ := hrel
    have hsz := hbe.size
    have HT : Hid (parE l = parF26 ((l.drop a).take (k - a)) done (l.drop k)) := hT
    obtain ⟨av, cv, hvs⟩ : ∃ av cv, u5 = .slice av done.length cv := by
      rcases hown with ⟨_, ⟨rfl, h2⟩ | ⟨g, cap, cur, rfl, _⟩⟩
      · exact ⟨none, 0, by rw [h2]⟩
      · exact ⟨_, _, rfl⟩
    subst hvs
    clear hT
    by_cases hkl : k < l.length
    · obtain ⟨c, hc, HC, HDR⟩ : ∃ c, (str l)[k]'(hkl) = c ∧ Hid (l[k] = c) ∧ Hid (l.drop k = c :: l.drop (k + 1)) := ⟨_, rfl, rfl, by show _ = _; rw [List.drop_eq_getElem_cons hkl]; rfl⟩
      by_cases h10 : c = 10
      · subst h10
        obtain ⟨seg, HSEG, hsl⟩ : ∃ seg, Hid (seg = (l.drop a).take (k - a)) ∧ seg.length ≤ 4194304 := ⟨_, rfl, by simp; omega⟩
        have hcut := str_cut l a k
        rw [← HSEG.out] at hcut
        have HP : Hid (parE l = (match readE seg with | none => ([], (done.length : Int) + 1, 20) | some i => parF26 [] (done ++ [i]) (l.drop (k + 1)))) := by
          show _ = _; rw [HT.out, HDR.out, ← HSEG.out]; simp only [parF26]; rfl
        clear HT HC HDR HSEG
        have HRA := keepG (read26 seg wr hsl)
        cases hrd : readE seg with
        | none =>
          rw [hrd] at HP
          have HP : Hid (parE l = ([], (done.length : Int) + 1, 20)) := HP
          have HRD := keepG hrd
          clear hrd
          go_wp2_with (first
            | (go_at_call 32; go_must (refine HRA.out.mono ?_); rintro x1 w1 ⟨⟨e, rfl, _⟩, hb1⟩; go_must (rw [HRD.out]; simp only [Option.isSome_none]; obtain ⟨X8, Y8, HX8, HY8, H8z, H8, HB8⟩ := new_en w1 e; have HX8 := HX8.out; dsimp only [enC, En.nil] at HX8; have HX8 := keepG HX8; have hB1 := hbe.trans (hb1.mono hsz); have hB8 := hB1.trans (HB8.out.mono hB1.size); clear hb1))
            | (rw [HX8.out])
            | ((with_reducible refine wpList_store_mid ?_ 36 (.tmp 8) (.tmp 26) ?_ w1.heap.size 0 (enC e).toArray ?_ ?_ (thereEn H8z.out) (sizeEnA _) (oneEn _) ?_); rfl; rfl; rfl; rfl)
            | (rw [HY8.out])
            | (rw [show X8.setCells w1.heap.size 0 (enC e) = Y8 from HY8.out]))
          try rw [show X8.setCells w1.heap.size 0 (enC e) = Y8 from HY8.out]
          go_ret3
          exact ⟨.slice none 0 0, ret3v26 (by rw [HP.out]) (by rw [HP.out]), by rw [HP.out]; exact World.ownsRow_nil _ _ _ _, hB8⟩
        | some i =>
          rw [hrd] at HP
          have HP : Hid (parE l = parF26 ((l.drop (k + 1)).take (k + 1 - (k + 1))) (done ++ [i]) (l.drop (k + 1))) := by show _ = _; rw [HP.out]; simp
          have HRD := keepG hrd
          clear hrd
          go_wp2_with (first
            | (go_at_call 32; go_must (refine HRA.out.mono ?_); rintro x1 w1 ⟨⟨e, rfl, hj⟩, hb1⟩; go_must (obtain rfl := hj _ HRD.out; rw [HRD.out]; simp only [Option.isSome_some]; obtain ⟨X8, Y8, HX8, HY8, H8z, H8, HB8⟩ := new_en w1 i; have HX8 := HX8.out; dsimp only [enC, En.nil] at HX8; have HX8 := keepG HX8; have hB1 := hbe.trans (hb1.mono hsz); have hz1' := hb1.size; have hown1 := own_below hown hb1 (Nat.le_refl _); have hB8 := hB1.trans (HB8.out.mono hB1.size); have hown8 := own_below hown1 HB8.out (Nat.le_refl _); have hz8 := HB8.out.size; clear hb1 hj hbe hown hown1))
            | (rw [HX8.out])
            | ((with_reducible refine wpList_store_mid ?_ 36 (.tmp 8) (.tmp 26) ?_ w1.heap.size 0 (enC i).toArray ?_ ?_ (thereEn H8z.out) (sizeEnA _) (oneEn _) ?_); rfl; rfl; rfl; rfl)
            | (rw [HY8.out])
            | ((with_reducible refine wpList_load_mid ?_ 36 (.tmp 8) ?_ w1.heap.size 0 ?_ (enC i) _ (enAt H8.out) Tryd.underlying36 ?_ (sizeEn _) ?_); rfl; rfl; rfl; rfl)
            | (at_builtin; go_must (refine wpList_append_own _ rfl (.tmp 33) (.tmp 35) 22 rfl w.heap.size 36 i0 (.agg (enC En.nil).toArray) 22 176 Tryd.underlying22 hi hz0 hz1 hz2 rfl (by decide) _ _ _ rfl (hown8.alloc _) ⟨_, 0, none⟩ 1 1 (flatG enC [i]) rfl rfl (one_en _ _ i _ (by simp)) (one_cellE _) (by unfold maxLen; omega) (by omega) (by simp; omega) ?_); intro v3 w3 hown3 hg3 _; go_must (have hB3 : Below w.heap.size w w3 := (hB8.alloc (by omega) _).grown hg3 (by simp; omega) (fun j hj => (hown8.lt j hj).1); clear hg3)))
          have HO : Hid (w3.ownsRow w.heap.size 36 22 v3 (done ++ [i]).length (flatG enC (done ++ [i]))) := by
            refine own_moreG ?_
            simpa [flatG] using hown3
          clear hown3
          go_roundw
          case rel => exact ⟨k + 1, k + 1, done ++ [i], by go_num, by go_num, by simp; omega, by omega, by omega, HP.out, HO.out, hB3⟩
          case measure => simp [intOf]; omega
      · have t10 : ((c.toNat : Int) != 10) = true := by
          simp
          intro h
          exact h10 (UInt8.toNat_inj.1 (by show c.toNat = 10; omega))
        have HD : Hid (parE l = parF26 ((l.drop a).take (k + 1 - a)) done (l.drop (k + 1))) := by
          show _ = _; rw [HT.out, HDR.out, seg_succ hak hkl HC.out]; simp only [parF26]; rw [if_neg h10]
        clear HT HC HDR h10
        go_wp2_with fail
        go_roundw
        case rel => exact ⟨k + 1, a, done, by go_num, rfl, by omega, by omega, by omega, HD.out, hown, hbe⟩
        case measure => simp [intOf]; omega
    · obtain rfl : k = l.length := by omega
      by_cases hal : a < l.length
      · have HP : Hid (parE l = ([], (done.length : Int) + 1, 20)) := by
          show _ = _; rw [HT.out, List.drop_length]; unfold parF26; rw [if_neg]
          intro h
          have := congrArg List.length h
          simp at this; omega
        clear HT
        go_wp2_with fail
        go_ret3
        exact ⟨.slice none 0 0, ret3v26 (by rw [HP.out]) (by rw [HP.out]), by rw [HP.out]; exact World.ownsRow_nil _ _ _ _, hbe⟩
      · have HP : Hid (parE l = (done, 0, 0)) := by
          show _ = _; rw [HT.out, List.drop_length]; unfold parF26; rw [if_pos (by rw [show l.length - a = 0 by omega]; simp)]
        clear HT
        go_wp2_with fail
        go_ret3
        exact ⟨.slice av done.length cv, ret3v26 (by rw [HP.out]) (by rw [HP.out]), by rw [HP.out]; exact hown, hbe⟩
end Go.Proofs.YtbfbfbbpajaclaaDoor
