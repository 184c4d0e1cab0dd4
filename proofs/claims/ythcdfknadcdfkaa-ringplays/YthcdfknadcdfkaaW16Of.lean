
/-
  The landed ring of layer 16: Offer; two rings. Condition: they lie where the pointers say.
-/
import Derived.Test.YthcdfknadcdfkaaW16Wh
namespace Go.Proofs.Ythcdfknadcdfkaa
open Go.RowKit
set_option linter.unusedVariables false
set_option linter.unusedSimpArgs false
set_option maxRecDepth 100000
abbrev nC (n : Int) : List Value := [.int .i64 n]
theorem nC_len (n : Int) : (nC n).length = 1 := rfl
theorem nC_one (n : Int) : ∀ u ∈ nC n, u.oneCell' = true := by
  intro u hu
  simp at hu
  rw [hu]
  rfl
theorem infoInt : (Try.prog.info? 3).map (fun i => (i.zero, i.size, i.bytes)) = some (some (.int .i64 0), 1, 8) := by kernel_rfl
def lastA (E last : Int) : Int := if E = 0 then last + 1 else last
/-- Accept, one behind the other. -/
def offR : Rg → Int → List Ev → List Int × Rg × Int
  | r, last, [] => ([], r, last)
  | r, last, e :: es => ((r.accept e.a e.b (last + 1)).1 :: (offR (r.accept e.a e.b (last + 1)).2.2 (lastA (r.accept e.a e.b (last + 1)).2.1 last) es).1, (offR (r.accept e.a e.b (last + 1)).2.2 (lastA (r.accept e.a e.b (last + 1)).2.1 last) es).2)
theorem offR_app (xs ys : List Ev) : ∀ r last, offR r last (xs ++ ys) = ((offR r last xs).1 ++ (offR (offR r last xs).2.1 (offR r last xs).2.2 ys).1, (offR (offR r last xs).2.1 (offR r last xs).2.2 ys).2) := by
  induction xs with
  | nil => intro r last; rfl
  | cons x xs ih =>
    intro r last
    rw [List.cons_append, offR, ih, offR]
    rfl
theorem offR_len (es : List Ev) : ∀ r last, (offR r last es).1.length = es.length := by
  induction es with
  | nil => intro r last; rfl
  | cons e es ih => intro r last; rw [offR, List.length_cons, ih, List.length_cons]
/-- What holds behind so many. -/
structure Ob (r : Rg) (last : Int) (n : Nat) : Prop where
  ok : r.Ok
  all : r.all.length ≤ n
  ref : r.refused ≤ n
  l0 : 0 ≤ last
  ln : last ≤ n
theorem Ob.step {r : Rg} {last : Int} {n : Nat} (h : Ob r last n) (a b : Int) : Ob (r.accept a b (last + 1)).2.2 (lastA (r.accept a b (last + 1)).2.1 last) (n + 1) := by
  have h1 := h.all
  have h2 := h.ref
  have h3 := h.l0
  have h4 := h.ln
  refine ⟨h.ok.accept a b (last + 1), ?_, ?_, ?_, ?_⟩
  · unfold Rg.accept
    split
    · exact Nat.le_succ_of_le h1
    · split
      · exact Nat.le_succ_of_le h1
      · simp; exact h1
  · unfold Rg.accept
    split
    · exact Nat.le_succ_of_le h2
    · split
      · exact Nat.succ_le_succ h2
      · exact Nat.le_succ_of_le h2
  · unfold lastA
    split <;> omega
  · unfold lastA
    split <;> omega
theorem Ob.offs (es : List Ev) : ∀ {r : Rg} {last : Int} {n : Nat}, Ob r last n → Ob (offR r last es).2.1 (offR r last es).2.2 (n + es.length) := by
  induction es with
  | nil => intro r last n h; exact h
  | cons e es ih =>
    intro r last n h
    have := ih (h.step e.a e.b)
    rw [List.length_cons, show n + (es.length + 1) = n + 1 + es.length by omega]
    exact this
theorem take_moreE {ps : List Ev} {j : Nat} (hj : j < ps.length) : ps.take (j + 1) = ps.take j ++ [ps.getD j Ev.nil] := by
  rw [List.take_add_one, List.getD_eq_getElem?_getD, List.getElem?_eq_getElem hj]
  rfl
theorem offR_one (r : Rg) (last : Int) (es : List Ev) {j : Nat} (hj : j < es.length) {x : Ev} (hx : es.getD j Ev.nil = x) : offR r last (es.take (j + 1)) = ((offR r last (es.take j)).1 ++ [((offR r last (es.take j)).2.1.accept x.a x.b ((offR r last (es.take j)).2.2 + 1)).1], ((offR r last (es.take j)).2.1.accept x.a x.b ((offR r last (es.take j)).2.2 + 1)).2.2, lastA ((offR r last (es.take j)).2.1.accept x.a x.b ((offR r last (es.take j)).2.2 + 1)).2.1 (offR r last (es.take j)).2.2) := by
  rw [take_moreE hj, offR_app, hx]
  rfl
theorem offR_at (r : Rg) (last : Int) (es : List Ev) {j : Nat} (hj : j < es.length) {x : Ev} (hx : es.getD j Ev.nil = x) : (offR r last es).1.getD j 0 = ((offR r last (es.take j)).2.1.accept x.a x.b ((offR r last (es.take j)).2.2 + 1)).1 := by
  have h1 : es = es.take (j + 1) ++ es.drop (j + 1) := (List.take_append_drop _ _).symm
  have h2 := offR_len (es.take j) r last
  have h3 : (es.take j).length = j := by rw [List.length_take]; omega
  rw [h3] at h2
  have h4 : (offR r last es).1 = (offR r last (es.take (j + 1))).1 ++ (offR (offR r last (es.take (j + 1))).2.1 (offR r last (es.take (j + 1))).2.2 (es.drop (j + 1))).1 := by
    conv => lhs; rw [h1]
    rw [offR_app]
  rw [h4, offR_one r last es hj hx, List.getD_eq_getElem?_getD]
  simp only
  rw [List.append_assoc, List.getElem?_append_right (by omega), h2]
  simp
section
variable {w w' : World} {B b : Nat} {r : Rg} {F G : Ft} {last : Int}
set_option maxHeartbeats 8000000 in
theorem Lr.offer {pv : Value} {es : List Ev} {n : Nat} (h : Lr w B b r last F) (ho : Ob r last n) (hn : n + es.length ≤ 1000000000000000) (hB : B ≤ w.heap.size) (hs : SeesG evC 2 Ev.nil w pv es) (hlen : es.length * 16 ≤ 140737488351232) (hap : Apt F (ftV pv)) {ns : List Int} {r' : Rg} {last' : Int} (HR : Hid (offR r last es = (ns, r', last'))) :
    Calls Try.prog 21 #[.pointer (some ⟨b, 0, none⟩), pv] w fun e w' => ∃ u, e = .returned u ∧ w'.ownsRow w.heap.size 3 1 u ns.length (flatG nC ns) ∧ ∃ F', Lr w' B b r' last' F' ∧ Nx w w' F F' := by
  obtain ⟨i0, hi0, hz0, hzs, hzb⟩ := info_parts infoInt
  have HSS : Hid (∀ wr, Chg w wr F → SeesG evC 2 Ev.nil wr pv es) := fun wr hc => hs.keeps hc hap
  have HOB := keepG ho
  clear ho
  obtain ⟨a, c, rfl, hc, hm, _, _⟩ := hs
  have hm' : c ≤ 9223372036854775807 := by unfold maxLen at hm; omega
  go_enter Try.func21, Try.ntmps21
  go_wp2
  go_loopw [5, 12] (fun rv i wr => ∃ j : Nat, j ≤ es.length ∧ i = .int .i64 j ∧ Hid (wr.ownsRow w.heap.size 3 1 rv (offR r last (es.take j)).1.length (flatG nC (offR r last (es.take j)).1)) ∧ ∃ F1, Hid (Lr wr B b (offR r last (es.take j)).2.1 (offR r last (es.take j)).2.2 F1 ∧ Nx w wr F F1)) (fun _ i _ => es.length - (intOf i).toNat)
  case atStart => exact ⟨0, by omega, rfl, World.ownsRow_nil _ _ _ _, F, h, Nx.refl _ _⟩
  case round =>
    obtain ⟨j, hj, rfl, HO, F1, HL⟩ := hrel
    rename World => wr
    have hz1 := HL.out.2.chg.size
    obtain ⟨oa, oc, ev⟩ := own_shape HO.out
    subst ev
    by_cases hlt : j < es.length
    · have hltI : (j : Int) < es.length := by omega
      obtain ⟨a', c', ev, _, _, _, hcell⟩ := HSS.out _ HL.out.2.chg
      simp only [Value.slice.injEq, true_and] at ev
      obtain ⟨rfl, rfl⟩ := ev
      obtain ⟨g, off, rfl, hg, hat⟩ := hcell (fun e => by rw [e] at hlt; simp at hlt)
      have d0 := hat j hlt 0 (by omega)
      have d1 := hat j hlt 1 (by omega)
      simp only [List.getElem?_cons_zero, List.getElem?_cons_succ, Nat.add_zero] at d0 d1
      clear hat hcell
      obtain ⟨x, HX0⟩ : ∃ x, Hid (es.getD j Ev.nil = x) := ⟨_, rfl⟩
      rw [HX0.out] at d0 d1
      have HT := keepG (offR_one r last es hlt HX0.out)
      have hrl := offR_len (es.take j) r last
      have htl := List.length_take_le j es
      have hob := HOB.out.offs (es.take j)
      obtain ⟨M, HMM⟩ : ∃ M, Hid ((offR r last (es.take j)).1 = M) := ⟨_, rfl⟩
      obtain ⟨s1, HS1⟩ : ∃ s1, Hid ((offR r last (es.take j)).2.1 = s1) := ⟨_, rfl⟩
      obtain ⟨l1, HL1⟩ : ∃ l1, Hid ((offR r last (es.take j)).2.2 = l1) := ⟨_, rfl⟩
      rw [HMM.out] at hrl
      rw [HMM.out, HS1.out, HL1.out] at HT
      rw [HS1.out, HL1.out] at HL hob
      rw [HMM.out] at HO ⊢
      have hMl : M.length ≤ es.length := by omega
      have HBD : Hid (s1.Ok ∧ 0 ≤ l1 ∧ l1 ≤ 1000000000000000000 ∧ s1.refused ≤ 1000000000000000000) := by
        have h1 := hob.l0
        have h2 := hob.ln
        have h3 := hob.ref
        exact ⟨hob.ok, h1, by omega, by omega⟩
      clear hrl htl hob
      obtain ⟨xa, xb⟩ := x
      simp only at d0 d1 HT
      obtain ⟨q, E, s2, HQ⟩ : ∃ q E s2, Hid (s1.accept xa xb (l1 + 1) = (q, E, s2)) := ⟨_, _, _, rfl⟩
      obtain ⟨l2, HL2⟩ : ∃ l2, Hid ((if E = 0 then l1 + 1 else l1) = l2) := ⟨_, rfl⟩
      rw [HQ.out] at HT
      simp only [lastA, HL2.out] at HT
      obtain ⟨X, HX, hbX, hpX⟩ : ∃ X, Hid (wr.alloc (.cells #[.int .u64 xa, .int .u64 xb] 38) = X) ∧ Below wr.heap.size wr X ∧ Hp X wr.heap.size 38 [.int .u64 xa, .int .u64 xb] := ⟨_, rfl, below_allocG _ _, Hp.new wr [.int .u64 xa, .int .u64 xb] _⟩
      have HLX := keepG (HL.out.1.below hbX)
      have HOX := keepG (own_below HO.out hbX (Nat.le_refl _))
      have q0 := hpX.cell (j := 0) rfl
      have q1 := hpX.cell (j := 1) rfl
      rw [← HX.out] at q0 q1
      have hzX := hbX.size
      clear h hpX
      go_wp2_with (first
        | (go_at_call 10; rw [HX.out]; go_must (refine (HLX.out.accept xa xb HBD.out.1 (by omega) HBD.out.2.1 HBD.out.2.2.1 HBD.out.2.2.2 HQ HL2).mono ?_); rintro e w2 ⟨rfl, F2, hn2, hx2⟩; go_must (have HN2 := keepG hn2; have HX2 := keepG ((HL.out.2.trans (Nx.below hbX)).trans hx2); have HO2 := keepG (own_chg HOX.out hx2.chg (fun k hk e => by { obtain ⟨cs, hq⟩ := own_hpC16 HOX.out hk; exact HLX.out.other hq (by decide) (by decide) (by decide) e })); have hz2 := hx2.chg.size; clear hn2 hx2))
        | (at_builtin; go_must (refine wpList_append_own_at _ rfl (.tmp 22) (.tmp 24) 58 rfl w.heap.size 3 i0 _ 1 8 Try.underlying58 hi0 hz0 hzs hzb rfl (by decide) (.slice oa M.length oc) M.length (flatG nC M) rfl (HO2.out.alloc _) ⟨_, 0, none⟩ 1 1 (nC q) rfl rfl (cells_new _ (nC q) _ _ rfl) (nC_one q) (by unfold maxLen; omega) (by omega) (by simp; omega) ?_); intro v3 w3 hown hgr _ hnew; go_must (have HOW : Hid _ := own_moreG hown; have hc3 := chg_append hgr; have HN3 := keepG (HN2.out.keeps hc3 (fun k e1 e2 => by { obtain ⟨cs, hq⟩ := own_hpC16 HO2.out e1; exact HN2.out.other hq (by decide) (by decide) (by decide) e2 })); have HX3 : Hid (Nx w w3 F F2) := ⟨HX2.out.chg.trans hc3 (fun k hk e => by { have := (HO2.out.lt k e).1; omega }), HX2.out.new⟩; clear hown hgr hnew hc3; obtain ⟨va1, vc1, rfl⟩ := own_shape HOW.out)))
      have eM : (M ++ [q]).length = M.length + 1 := by simp
      first
        | (go_roundw
           case rel => exact ⟨j + 1, by omega, by go_num, by have hh := HOW.out; rw [HT.out]; show World.ownsRow _ _ _ _ _ _ _; rw [eM] at hh ⊢; exact hh, F2, by rw [HT.out]; exact ⟨HN3.out, HX3.out⟩⟩
           case measure => simp [intOf]; omega)
        | exact ⟨⟨j + 1, by omega, by go_num, by have hh := HOW.out; rw [HT.out]; show World.ownsRow _ _ _ _ _ _ _; rw [eM] at hh ⊢; exact hh, F2, by rw [HT.out]; exact ⟨HN3.out, HX3.out⟩⟩, by simp [intOf]; omega⟩
    · have hltI : ¬ (j : Int) < es.length := by omega
      have hT : es.take j = es := List.take_of_length_le (by omega)
      have HR1 : Hid ((offR r last (es.take j)).1 = ns) := by show _ = _; rw [hT, HR.out]
      have HR2 : Hid ((offR r last (es.take j)).2.1 = r') := by show _ = _; rw [hT, HR.out]
      have HR3 : Hid ((offR r last (es.take j)).2.2 = last') := by show _ = _; rw [hT, HR.out]
      rw [HR1.out] at HO ⊢
      rw [HR2.out, HR3.out] at HL
      clear hT
      go_wp2
      go_ret
      exact ⟨_, rfl, HO.out, F1, HL.out⟩
end
theorem own_emptyE (w : World) (t : TypeId) (z : Nat) : (w.alloc (.cells #[] t)).ownsRow w.heap.size t z (.slice (some ⟨w.heap.size, 0, none⟩) 0 0) 0 [] := by
  refine ⟨by simp, .inr ⟨w.heap.size, 0, #[], rfl, Nat.le_refl _, heap_alloc_new w _, Nat.le_refl _, by simp [maxLen], by simp, by simp⟩⟩
/-- Two rings with unlike Numbers. -/
structure O2 (w0 w : World) (a b : Nat) (r s : Rg) (la lb : Int) (F G : Ft) : Prop where
  ex : ∃ B C, B ≤ w.heap.size ∧ C ≤ w.heap.size ∧ Lr w B a r la F ∧ Lr w C b s lb G
  apt : Apt F G
  sf : Since w0 F
  sg : Since w0 G
  be : Below w0.heap.size w0 w
section
variable {w0 w w' : World} {a b : Nat} {r s : Rg} {la lb : Int} {F F' G : Ft}
theorem O2.swap (h : O2 w0 w a b r s la lb F G) : O2 w0 w b a s r lb la G F := by
  obtain ⟨B, C, h1, h2, h3, h4⟩ := h.ex
  exact ⟨⟨C, B, h2, h1, h4, h3⟩, h.apt.symm, h.sg, h.sf, h.be⟩
theorem O2.below (h : O2 w0 w a b r s la lb F G) (hb : Below w.heap.size w w') : O2 w0 w' a b r s la lb F G := by
  obtain ⟨B, C, h1, h2, h3, h4⟩ := h.ex
  exact ⟨⟨B, C, Nat.le_trans h1 hb.size, Nat.le_trans h2 hb.size, h3.below hb, h4.below hb⟩, h.apt, h.sf, h.sg, h.be.trans (hb.mono h.be.size)⟩
theorem O2.drewN (h : O2 w0 w a b r s la lb F G) (m : Nat) : O2 w0 (w.drewN m) a b r s la lb F G := h.below ⟨rfl, rfl, rfl, Nat.le_refl _, fun _ _ => rfl⟩
theorem O2.lies (h : O2 w0 w a b r s la lb F G) : Lies w F := by
  obtain ⟨B, C, h1, h2, h3, h4⟩ := h.ex
  exact h3.lies
theorem O2.other (h : O2 w0 w a b r s la lb F G) {m : Nat} {t : TypeId} {cs : List Value} (hp : Hp w m t cs) (h1 : t ≠ 62) (h2 : t ≠ 46) (h3 : t ≠ 26) : ¬ F m := by
  obtain ⟨B, C, g1, g2, g3, g4⟩ := h.ex
  exact g3.other hp h1 h2 h3
theorem O2.chg (h : O2 w0 w a b r s la lb F G) {S : Ft} (hc : Chg w w' S) (hF : Apt S F) (hG : Apt S G) (hS : Since w0 S) : O2 w0 w' a b r s la lb F G := by
  obtain ⟨B, C, h1, h2, h3, h4⟩ := h.ex
  exact ⟨⟨B, C, Nat.le_trans h1 hc.size, Nat.le_trans h2 hc.size, h3.keeps hc hF, h4.keeps hc hG⟩, h.apt, h.sf, h.sg, h.be.trans (hc.below (fun k e => hS k e) h.be.size)⟩
theorem O2.step {r' : Rg} {la' : Int} (h : O2 w0 w a b r s la lb F G) {B : Nat} (hB : B ≤ w.heap.size) (hL : Lr w' B a r' la' F') (hn : Nx w w' F F') : O2 w0 w' a b r' s la' lb F' G := by
  obtain ⟨_, C, h1, h2, h3, h4⟩ := h.ex
  exact ⟨⟨B, C, Nat.le_trans hB hn.chg.size, Nat.le_trans h2 hn.chg.size, hL, h4.keeps hn.chg h.apt⟩, h.apt.next h4.lies hn, h.sf.next h.be.size hn, h.sg, h.sf.be h.be hn⟩
theorem O2.accept (ea eb : Int) (h : O2 w0 w a b r s la lb F G) (hk : r.Ok) (h0 : 0 ≤ la) (hla : la ≤ 1000000000000000000) (hr : r.refused ≤ 1000000000000000000) {q E la' : Int} {r' : Rg} (HQ : Hid (r.accept ea eb (la + 1) = (q, E, r'))) (HL : Hid ((if E = 0 then la + 1 else la) = la')) :
    Calls Try.prog 10 #[.pointer (some ⟨a, 0, none⟩), .agg #[.int .u64 ea, .int .u64 eb]] w fun e w' => e = .returned (.tuple #[.int .i64 q, .int .i64 E]) ∧ ∃ F', O2 w0 w' a b r' s la' lb F' G ∧ Oth w w' := by
  obtain ⟨B, C, h1, h2, h3, h4⟩ := h.ex
  refine (h3.accept ea eb hk h1 h0 hla hr HQ HL).mono ?_
  rintro e w' ⟨rfl, F', g1, g2⟩
  exact ⟨rfl, F', h.step h1 g1 g2, fun m t cs a1 a2 a3 hp => hp.chg g2.chg (h3.other hp a1 a2 a3)⟩
theorem O2.offer {pv : Value} {es : List Ev} {n : Nat} (h : O2 w0 w a b r s la lb F G) (ho : Ob r la n) (hn : n + es.length ≤ 1000000000000000) (hs : SeesG evC 2 Ev.nil w pv es) (hlen : es.length * 16 ≤ 140737488351232) (hap : Apt F (ftV pv)) {ns : List Int} {r' : Rg} {la' : Int} (HR : Hid (offR r la es = (ns, r', la'))) :
    Calls Try.prog 21 #[.pointer (some ⟨a, 0, none⟩), pv] w fun e w' => ∃ u, e = .returned u ∧ w'.ownsRow w.heap.size 3 1 u ns.length (flatG nC ns) ∧ ∃ F', O2 w0 w' a b r' s la' lb F' G ∧ Oth w w' ∧ Nx w w' F F' := by
  obtain ⟨B, C, h1, h2, h3, h4⟩ := h.ex
  refine (h3.offer ho hn h1 hs hlen hap HR).mono ?_
  rintro e w' ⟨u, rfl, g0, F', g1, g2⟩
  exact ⟨u, rfl, g0, F', h.step h1 g1 g2, fun m t cs a1 a2 a3 hp => hp.chg g2.chg (h3.other hp a1 a2 a3), g2⟩
theorem O2.waits (h : O2 w0 w a b r s la lb F G) (hk : r.Ok) {A : List Qe} (HA : Hid (r.waits = A)) : Calls Try.prog 17 #[.pointer (some ⟨a, 0, none⟩)] w fun e w' => ∃ u, e = .returned u ∧ w'.ownsRow w.heap.size 46 3 u A.length (flatG qeC A) ∧ Below w.heap.size w w' := by
  obtain ⟨B, C, h1, h2, h3, h4⟩ := h.ex
  exact h3.waits hk HA
theorem O2.shut (h : O2 w0 w a b r s la lb F G) (hk : r.Ok) (hm : r.all.length ≤ 1000000000000000) {A : List Qe} (HA : Hid (r.waits = A)) : Calls Try.prog 15 #[.pointer (some ⟨a, 0, none⟩)] w fun e w' => ∃ u F', e = .returned u ∧ w'.ownsRow w.heap.size 46 3 u A.length (flatG qeC A) ∧ O2 w0 w' a b r.shut.2 s la lb F' G ∧ Apt F' (ftV u) ∧ Apt G (ftV u) := by
  obtain ⟨B, C, h1, h2, h3, h4⟩ := h.ex
  refine (h3.shut hk hm h1 HA).mono ?_
  rintro e w' ⟨u, F', rfl, g1, g2, g3, g4⟩
  exact ⟨u, F', rfl, g1, h.step h1 g2 g3, Apt.made g4 (own_since g1 (Nat.le_refl _)), Apt.made h4.lies (own_since g1 (Nat.le_refl _))⟩
theorem O2.counts (h : O2 w0 w a b r s la lb F G) (hk : r.Ok) (hm : r.all.length ≤ 1000000000000000) {c rf t d q : Int} (HQ : Hid (r.counts = (c, rf, t, d, q))) : Calls Try.prog 19 #[.pointer (some ⟨a, 0, none⟩)] w fun e w' => e = .returned (cntV c rf t d q) ∧ Below w.heap.size w w' := by
  obtain ⟨B, C, h1, h2, h3, h4⟩ := h.ex
  exact h3.counts hk hm HQ
theorem O2.new {w1 w2 w3 : World} {B C : Nat} (hb1 : Below w0.heap.size w0 w1) (hL : Lr w2 B a r la F) (hB : B ≤ w2.heap.size) (hs : Since w1 F) (hb2 : Below w1.heap.size w1 w2) (hM : Lr w3 C b s lb G) (hC : C ≤ w3.heap.size) (ht : Since w2 G) (hb3 : Below w2.heap.size w2 w3) : O2 w0 w3 a b r s la lb F G := by
  have hz1 := hb1.size
  have hz2 := hb2.size
  have hz3 := hb3.size
  exact ⟨⟨B, C, by omega, hC, hL.below hb3, hM⟩, Apt.made hL.lies ht, fun k hk => by have := hs k hk; omega, fun k hk => by have := ht k hk; omega, (hb1.trans (hb2.mono hz1)).trans (hb3.mono (by omega))⟩
end
/-- A row of another type stays. -/
theorem own_othG {w w' : World} {B : Nat} {e : TypeId} {z : Nat} {v : Value} {n : Nat} {xs : List Value} (h : w.ownsRow B e z v n xs) (ho : Oth w w') (h1 : e ≠ 62) (h2 : e ≠ 46) (h3 : e ≠ 26) : w'.ownsRow B e z v n xs := by
  rcases h with ⟨g1, g2 | ⟨g, cap, cur, rfl, q1, q2, q3⟩⟩
  · exact ⟨g1, .inl g2⟩
  · have := ho g e cur.toList h1 h2 h3 (by unfold Hp; simpa using q2)
    exact ⟨g1, .inr ⟨g, cap, cur, rfl, q1, by unfold Hp at this; simpa using this, q3⟩⟩
/-- An event of a row overwritten. -/
theorem own_set3 {w : World} {B g cap k : Nat} {X : List Qe} (h : w.ownsRow B 46 3 (.slice (some ⟨g, 0, none⟩) X.length cap) X.length (flatG qeC X)) (hk : k < X.length) (q : Qe) :
    ∃ Y : List Qe, Y.length = X.length ∧ (((w.setCell ⟨g, k * 3, none⟩ (.int .i64 q.n)).setCell ⟨g, k * 3 + 1, none⟩ (.int .u64 q.a)).setCell ⟨g, k * 3 + 2, none⟩ (.int .u64 q.b)).ownsRow B 46 3 (.slice (some ⟨g, 0, none⟩) X.length cap) Y.length (flatG qeC Y) := by
  have h1 := own_setG (x := (⟨q.n, (X.getD k Qe.nil).a, (X.getD k Qe.nil).b⟩ : Qe)) (j := 0) (u := .int .i64 q.n) qeC_len Qe.nil h hk (by omega) rfl
  have e1 : ∀ y : Qe, (X.set k y).getD k Qe.nil = y := fun y => by simp [List.getD, hk]
  have h2 := own_setG (x := (⟨q.n, q.a, (X.getD k Qe.nil).b⟩ : Qe)) (j := 1) (u := .int .u64 q.a) qeC_len Qe.nil h1 (by simpa using hk) (by omega) (by rw [e1]; rfl)
  rw [List.set_set] at h2
  have h3 := own_setG (x := (⟨q.n, q.a, q.b⟩ : Qe)) (j := 2) (u := .int .u64 q.b) qeC_len Qe.nil h2 (by simpa using hk) (by omega) (by rw [e1]; rfl)
  rw [List.set_set] at h3
  refine ⟨X.set k ⟨q.n, q.a, q.b⟩, by simp, ?_⟩
  rw [List.length_set] at h3 ⊢
  exact h3
end Go.Proofs.Ythcdfknadcdfkaa
