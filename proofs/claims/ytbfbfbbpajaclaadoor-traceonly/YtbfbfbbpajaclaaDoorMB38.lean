
/-
  What the landed plain does: whether an entry is plain. Condition: the listed variables read as they are laid.
-/
import Derived.Test.YtbfbfbbpajaclaaDoorMB37
import Derived.Test.YtbfbfbbpajaclaaDoorMB34
import Derived.Test.YtbfbfbbpajaclaaDoorMB36
namespace Go.Proofs.YtbfbfbbpajaclaaDoor
open Go.RowKit
set_option linter.unusedVariables false
set_option linter.unusedSimpArgs false
set_option maxRecDepth 100000
/-- A load of a struct where its guard holds. -/
theorem wpList_load_on {P : Program} {ops : Array Oper} {rest : List Oper} {op : Oper} {a : Act} {w : World} {Q : Exit → Act → World → Prop} (hgd : Region.wanted op (yielded ops a.tmps) = true) (ty : TypeId) (x : Operand) (ho : op.op = .load ty x)
    (b o : Nat) (hx : a.eval x = .pointer (some ⟨b, o, none⟩)) (cs : List Value) (d : TypeDesc) (hc : w.rangeAt b o cs)
    (hu : P.underlying ty = some d) (hd : d.isRow = true) (hi : (P.info? ty).map (·.size) = some cs.length)
    (h : wpList P ops Q rest (a.put op.dst (.agg cs.toArray)) w) : wpList P ops Q (op :: rest) a w :=
  wpList_step fun K hK => by rw [if_pos hgd]; exact wp_load_mid ty x ho b o hx cs d hc hu hd hi (hK _ _ h)
theorem BytesAt.chg {w w' : World} {n : Nat} {f : List UInt8} {S : Nat → Prop} (h : BytesAt w n f) (hc : Chg w w' S) (hS : ¬ S n) : BytesAt w' n f := h.keep (hc.block n h.lt hS)
theorem zero_lay {e : En} {c : UInt8} {bk : Nat} {w w' : World} (h : LayR e c.toNat [48] bk w w') : Hid (Hp w' bk 36 (enC (putE e c.toNat 0 0))) ∧ Hid (Chg w w' (fun x => x = bk)) := by
  obtain ⟨k, n, H1, H2, H3⟩ := h
  obtain ⟨rfl, rfl⟩ := Got.zero H1.out
  exact ⟨H2, H3⟩
set_option maxHeartbeats 6400000 in
theorem lplain26 (e : En) (w : World) (h : Laid w) : Calls Tryd.prog 29 #[enV e] w fun r w' => r = .returned (.bool (plainE e)) ∧ Below w.heap.size w w' := by
  obtain ⟨X, HX, HP, HB⟩ := box_en w e
  have HX := HX.out
  dsimp only [enC] at HX
  have HX := keepG HX
  have HL : Hid (Laid w) := h
  obtain ⟨f, HF, hfl⟩ : ∃ f, Hid (ltrE e = f) ∧ f.length ≤ 14 := ⟨_, rfl, ltrE_len e⟩
  have HMEM : Hid (∀ c ∈ f, c ∈ allL) := by
    show ∀ c ∈ f, _
    rw [← HF.out]
    exact fun c hc => (ltrE_mem hc).1
  have HPL : Hid (plainE e = (!f.isEmpty && eqZ (dryE e))) := by show _ = _; rw [plain_iff, HF.out]
  obtain ⟨b, HS⟩ : ∃ b, Hid (Lib.hasSuffix f [79, 86] = b) := ⟨_, rfl⟩
  have HDR : Hid (dryE e = if b = true then { zE e f with ou := false } else zE e f) := by show _ = _; unfold dryE; rw [HF.out, HS.out]
  clear h
  unfold enV
  go_enter Tryd.func29, Tryd.ntmps29
  go_wp2_with (first
    | (rw [HX.out])
    | ((with_reducible refine wpList_load_mid ?_ 36 (.tmp 1) ?_ w.heap.size 0 ?_ (enC e) _ (enAt HP.out) Tryd.underlying36 ?_ (sizeEn _) ?_); rfl; rfl; rfl; rfl)
    | (go_at_call 39; go_must (refine (lltr26 e _).mono ?_); rintro e1 w2 ⟨rfl, hb2⟩; go_must (rw [HF.out]; obtain ⟨cap, Z, hcv, HBZ, HBA, HZS⟩ := bytes26 f w2; have HB2 : Hid (Below w.heap.size w w2) := HB.out.trans (hb2.mono HB.out.size); have HBz : Hid (Below w.heap.size w Z) := HB2.out.trans (HBZ.out.mono HB2.out.size); have HP2 : Hid (Hp w2 w.heap.size 36 (enC e)) := HP.out.below hb2 HP.out.lt; have hnb := HP2.out.lt; have HPZ : Hid (Hp Z w.heap.size 36 (enC e)) := HP2.out.below HBZ.out HP2.out.lt; clear hb2)))
  generalize w2.heap.size = nb at *
  clear hcv
  go_loopw [11] (fun i wr => ∃ k : Nat, k ≤ f.length ∧ i = .int .i64 k ∧ Hid (Hp wr w.heap.size 36 (enC (zE e (f.take k)))) ∧ Hid (BytesAt wr nb f) ∧ Hid (Below w.heap.size w wr)) (fun i _ => f.length - (intOf i).toNat)
  case atStart => exact ⟨0, by omega, rfl, HPZ.out, HBA.out, HBz.out⟩
  case round =>
    rename World => wr
    obtain ⟨k, hk, rfl, HPR, HBR, HBW⟩ := hrel
    clear HBZ HBA HZS HB2 HBz HPZ HP2
    have HLr : Hid (Laid wr) := laid_keeps _ _ HL.out HBW.out
    by_cases hlt : k < f.length
    · obtain ⟨c, hc⟩ : ∃ c, f[k]? = some c := ⟨_, List.getElem?_eq_getElem hlt⟩
      have HCA : Hid (c ∈ allL) := HMEM.out c (List.mem_of_getElem? hc)
      have hcell := HBR.out.cell hc
      have HT : Hid (f.take (k + 1) = f.take k ++ [c]) := by show _ = _; rw [List.take_add_one, hc]; rfl
      have hcb : c.toNat < 256 := UInt8.toNat_lt c
      clear hc
      go_wp2_with (first
        | (go_at_call 44; go_must (refine (llay26 (zE e (f.take k)) c HCA.out w.heap.size [48] _ HLr.out HPR.out (by simp)).mono ?_); rintro e1 w4 ⟨rfl, hlay⟩; go_must (obtain ⟨HP4, HC4⟩ := zero_lay hlay; have HB4 : Hid (BytesAt w4 nb f) := HBR.out.chg HC4.out (fun e' => by have e' : nb = w.heap.size := e'; omega); have HW4 : Hid (Below w.heap.size w w4) := HBW.out.trans (HC4.out.below (fun x hx => by have hx : x = w.heap.size := hx; omega) HBW.out.size); clear hlay hcell)))
      have HP5 : Hid (Hp w4 w.heap.size 36 (enC (zE e (f.take (k + 1))))) := by show Hp _ _ _ _; rw [HT.out, zE_snoc]; exact HP4.out
      go_roundw
      case rel => exact ⟨k + 1, by omega, by go_num, HP5.out, HB4.out, HW4.out⟩
      case measure => simp [intOf]; omega
    · obtain rfl : k = f.length := by omega
      obtain ⟨z, HZ⟩ : ∃ z, Hid (zE e f = z) := ⟨_, rfl⟩
      have HPZ : Hid (Hp wr w.heap.size 36 (enC z)) := by have h := HPR.out; rw [List.take_length, HZ.out] at h; exact h
      rw [HZ.out] at HDR
      clear HPR
      by_cases hf : f = []
      · subst hf
        have HE : Hid (plainE e = false) := HPL.out
        obtain rfl : b = false := HS.out.symm
        go_wp2_with (first
          | (go_at_call 45; go_must (refine (suf_any [] [79, 86] _ (by simp)).mono ?_); rintro e1 w5 ⟨rfl, rfl⟩; go_must (rw [HS.out])))
        go_ret
        exact ⟨retb26 HE.out.symm, HBW.out⟩
      · have HE : Hid (plainE e = eqZ (dryE e)) := by show _ = _; rw [HPL.out]; simp [hf]
        have hfe : (f == []) = false := by simpa using hf
        have q0 := HPZ.out.cell (j := 0) rfl
        cases b
        · have HD : Hid (plainE e = eqZ z) := by show _ = _; rw [HE.out, HDR.out]; rfl
          have heq : ∀ W, (binOp .eql 36 (.agg (enC z).toArray) (enV (startM z.wh false))).run Tryd.prog W = .ok (.bool (eqZ z)) W := fun W => eqEn26 z W
          unfold enV startM En.nil at heq
          simp only at heq
          clear HE HDR HPL HF
          go_wp2_with (first
            | (go_at_call 45; go_must (refine (suf_any f [79, 86] _ (by omega)).mono ?_); rintro e1 w5 ⟨rfl, rfl⟩; go_must (rw [HS.out]))
            | ((with_reducible refine wpList_load_on ?_ 36 (.tmp 1) ?_ w.heap.size 0 ?_ (enC z) _ (enAt HPZ.out) Tryd.underlying36 ?_ (sizeEn _) ?_); rfl; rfl; rfl; rfl))
          go_ret
          exact ⟨retb26 HD.out.symm, HBW.out⟩
        · obtain ⟨U, HU, HPU, HBU⟩ : ∃ U, Hid (wr.setCell ⟨w.heap.size, 17, none⟩ (.bool false) = U) ∧ Hid (Hp U w.heap.size 36 (enC { z with ou := false })) ∧ Hid (Below w.heap.size w U) := ⟨_, rfl, HPZ.out.set 17 (.bool false), HBW.out.trans (grown_to_below (grown_set wr w.heap.size 17 (.bool false)) (Nat.le_refl _) HBW.out.size)⟩
          have c17 := HPZ.out.cell (j := 17) rfl
          have f17 := HPZ.out.frozen 17
          have u0 := HPU.out.cell (j := 0) rfl
          have HD : Hid (plainE e = eqZ { z with ou := false }) := by show _ = _; rw [HE.out, HDR.out]; rfl
          have heq : ∀ W, (binOp .eql 36 (.agg (enC { z with ou := false }).toArray) (enV (startM z.wh false))).run Tryd.prog W = .ok (.bool (eqZ { z with ou := false })) W := fun W => eqEn26 { z with ou := false } W
          unfold enV startM En.nil at heq
          simp only at heq
          clear HE HDR HPL HF
          go_wp2_with (first
            | (go_at_call 45; go_must (refine (suf_any f [79, 86] _ (by omega)).mono ?_); rintro e1 w5 ⟨rfl, rfl⟩; go_must (rw [HS.out]))
            | (rw [HU.out])
            | ((with_reducible refine wpList_load_on ?_ 36 (.tmp 1) ?_ w.heap.size 0 ?_ (enC { z with ou := false }) _ (enAt HPU.out) Tryd.underlying36 ?_ (sizeEn _) ?_); rfl; rfl; rfl; rfl))
          go_ret
          exact ⟨retb26 HD.out.symm, HBU.out⟩
end Go.Proofs.YtbfbfbbpajaclaaDoor
