
/-
  What the laws of layer 20 share: scripts of calls and tallies, opened; a call told to one. No condition.
-/
import Derived.Test.YtjhjfojmojjomaaW20Aw
import Derived.Test.YtjhjfojmojjomaaGOpenW
namespace Go.Proofs.Ytjhjfojmojjomaa
open Go.ChangeShapes Go.WideShapes Go.ChangeAt Go.RowKit
set_option linter.unusedVariables false
set_option linter.unusedSimpArgs false
set_option maxRecDepth 100000

/-- A call of a script. -/
structure Ow where
  k : Int
  on : Int
  h : Int
  s : Int
  c : Int
  r : Int
  u : Value
  ws : List Int
def Ow.nil : Ow := ⟨0, 0, 0, 0, 0, 0, .slice none 0 0, []⟩
abbrev owC (o : Ow) : List Value := [.int .i64 o.k, .int .i64 o.on, .int .i64 o.h, .int .u64 o.s, .int .u64 o.c, .int .u64 o.r, o.u]
theorem owC_len (o : Ow) : (owC o).length = 7 := rfl
theorem op20_cells {H : Type} {enc : TypeId × Value → H} {W : World} {fuel : Nat} {cs : List Value} {x : DataW H × List MemPlace}
    (h : DataW.trod enc Try.prog W 0 (fun _ => true) true fuel 31 cs = some x) : ∃ o : Ow, cs = owC o ∧ Sees .i64 W o.u o.ws ∧ ((x.1.weights Try.prog 31).all (· ≤ reachBytes) = true → o.ws.length * 8 ≤ 140737488351232) := by
  obtain ⟨xs, n, rfl, hx, hl, hlen, hf⟩ := DataW.trod_struct Try.underlying31 h
  have l5 : cs.length = 7 := by rw [hl]; kernel_rfl
  have u2 : Try.prog.cellsOf 3 = 1 := by kernel_rfl
  have u3 : Try.prog.cellsOf 28 = 1 := by kernel_rfl
  have u4 : Try.prog.cellsOf 29 = 1 := by kernel_rfl
  match cs, l5, xs, hlen, hf with
  | [c0, c1, c2, c3, c4, c5, c6], _, [x0, x1, x2, x3, x4, x5, x6], _, hf =>
    have h0 : DataW.trod enc Try.prog W 0 (fun _ => true) true n 3 (([c0, c1, c2, c3, c4, c5, c6].drop 0).take (Try.prog.cellsOf 3)) = some x0 := hf 0 _ rfl
    have h1 : DataW.trod enc Try.prog W 0 (fun _ => true) true n 3 (([c0, c1, c2, c3, c4, c5, c6].drop 1).take (Try.prog.cellsOf 3)) = some x1 := hf 1 _ rfl
    have h2 : DataW.trod enc Try.prog W 0 (fun _ => true) true n 3 (([c0, c1, c2, c3, c4, c5, c6].drop 2).take (Try.prog.cellsOf 3)) = some x2 := hf 2 _ rfl
    have h3 : DataW.trod enc Try.prog W 0 (fun _ => true) true n 28 (([c0, c1, c2, c3, c4, c5, c6].drop 3).take (Try.prog.cellsOf 28)) = some x3 := hf 3 _ rfl
    have h4 : DataW.trod enc Try.prog W 0 (fun _ => true) true n 28 (([c0, c1, c2, c3, c4, c5, c6].drop 4).take (Try.prog.cellsOf 28)) = some x4 := hf 4 _ rfl
    have h5 : DataW.trod enc Try.prog W 0 (fun _ => true) true n 28 (([c0, c1, c2, c3, c4, c5, c6].drop 5).take (Try.prog.cellsOf 28)) = some x5 := hf 5 _ rfl
    have h6 : DataW.trod enc Try.prog W 0 (fun _ => true) true n 29 (([c0, c1, c2, c3, c4, c5, c6].drop 6).take (Try.prog.cellsOf 29)) = some x6 := hf 6 _ rfl
    rw [u2] at h0 h1 h2
    rw [u3] at h3 h4 h5
    rw [u4] at h6
    have h6 : DataW.trod enc Try.prog W 0 (fun _ => true) true n 29 [c6] = some x6 := h6
    obtain ⟨y0, e0, z0, _⟩ := DataW.trod_int Try.underlying3 h0
    obtain ⟨y1, e1, z1, _⟩ := DataW.trod_int Try.underlying3 h1
    obtain ⟨y2, e2, z2, _⟩ := DataW.trod_int Try.underlying3 h2
    obtain ⟨y3, e3, z3, _⟩ := DataW.trod_int Try.underlying28 h3
    obtain ⟨y4, e4, z4, _⟩ := DataW.trod_int Try.underlying28 h4
    obtain ⟨y5, e5, z5, _⟩ := DataW.trod_int Try.underlying28 h5
    simp at e0 e1 e2 e3 e4 e5
    subst e0 e1 e2 e3 e4 e5 z0 z1 z2 z3 z4 z5
    obtain ⟨ua, ul, uc, rfl⟩ := slice_of_trod Try.underlying29 h6
    obtain ⟨zs, sz, bz⟩ := sees_open_sh (k := .i64) (d := x6.1) (p := x6.2) Try.underlying29 Try.underlying3 (by kernel_rfl) ⟨_, _, _, rfl⟩ ⟨n, h6⟩
    refine ⟨⟨y0, y1, y2, y3, y4, y5, _, zs⟩, rfl, sz, fun hall => ?_⟩
    rw [hx, DataW.weights, Try.underlying31] at hall
    simp only [DataW.weightsEach, List.map_cons, List.map_nil, List.all_append, Bool.and_eq_true] at hall
    have b8 : Try.prog.bytesOf 3 = 8 := by kernel_rfl
    have r0 := bz hall.2.2.2.2.2.2.1
    rw [b8] at r0
    unfold reachBytes at r0
    show zs.length * 8 ≤ _
    omega
theorem opens_Op20 {H : Type} {enc : TypeId × Value → H} {W : World} {base : Nat} {v : Value} {d : DataW H} {p : List MemPlace}
    (hok : Value.okWide Try.prog W .any base 22 v) (h : DataW.Trod enc Try.prog W 0 (fun _ => true) true 22 v d p) :
    ∃ xs, SeesG owC 7 Ow.nil W v xs ∧ (∀ x ∈ xs, Sees .i64 W x.u x.ws) ∧ ((d.weights Try.prog 22).all (· ≤ reachBytes) = true → xs.length * 72 ≤ 140737488351232 ∧ ∀ x ∈ xs, x.ws.length * 8 ≤ 140737488351232) :=
  opensGW Ow.nil (R := fun o => Sees .i64 W o.u o.ws) (Q := fun o => o.ws.length * 8 ≤ 140737488351232) Try.underlying22 (by kernel_rfl) (by decide) owC_len (by kernel_rfl) op20_cells hok h
theorem ta20_cells {H : Type} {enc : TypeId × Value → H} {W : World} {fuel : Nat} {cs : List Value} {x : DataW H × List MemPlace}
    (h : DataW.trod enc Try.prog W 0 (fun _ => true) true fuel 40 cs = some x) : ∃ t : Ta, cs = taC t ∧ True ∧ ((x.1.weights Try.prog 40).all (· ≤ reachBytes) = true → True) := by
  obtain ⟨xs, n, rfl, hx, hl, hlen, hf⟩ := DataW.trod_struct Try.underlying40 h
  have l5 : cs.length = 5 := by rw [hl]; kernel_rfl
  have u3 : Try.prog.cellsOf 28 = 1 := by kernel_rfl
  match cs, l5, xs, hlen, hf with
  | [c0, c1, c2, c3, c4], _, [x0, x1, x2, x3, x4], _, hf =>
    have h0 : DataW.trod enc Try.prog W 0 (fun _ => true) true n 28 (([c0, c1, c2, c3, c4].drop 0).take (Try.prog.cellsOf 28)) = some x0 := hf 0 _ rfl
    have h1 : DataW.trod enc Try.prog W 0 (fun _ => true) true n 28 (([c0, c1, c2, c3, c4].drop 1).take (Try.prog.cellsOf 28)) = some x1 := hf 1 _ rfl
    have h2 : DataW.trod enc Try.prog W 0 (fun _ => true) true n 28 (([c0, c1, c2, c3, c4].drop 2).take (Try.prog.cellsOf 28)) = some x2 := hf 2 _ rfl
    have h3 : DataW.trod enc Try.prog W 0 (fun _ => true) true n 28 (([c0, c1, c2, c3, c4].drop 3).take (Try.prog.cellsOf 28)) = some x3 := hf 3 _ rfl
    have h4 : DataW.trod enc Try.prog W 0 (fun _ => true) true n 28 (([c0, c1, c2, c3, c4].drop 4).take (Try.prog.cellsOf 28)) = some x4 := hf 4 _ rfl
    rw [u3] at h0 h1 h2 h3 h4
    obtain ⟨y0, e0, z0, _⟩ := DataW.trod_int Try.underlying28 h0
    obtain ⟨y1, e1, z1, _⟩ := DataW.trod_int Try.underlying28 h1
    obtain ⟨y2, e2, z2, _⟩ := DataW.trod_int Try.underlying28 h2
    obtain ⟨y3, e3, z3, _⟩ := DataW.trod_int Try.underlying28 h3
    obtain ⟨y4, e4, z4, _⟩ := DataW.trod_int Try.underlying28 h4
    simp at e0 e1 e2 e3 e4
    subst e0 e1 e2 e3 e4
    exact ⟨⟨y0, y1, y2, y3, y4⟩, rfl, trivial, fun _ => trivial⟩
theorem opens_Ta {H : Type} {enc : TypeId × Value → H} {W : World} {base : Nat} {v : Value} {d : DataW H} {p : List MemPlace}
    (hok : Value.okWide Try.prog W .any base 38 v) (h : DataW.Trod enc Try.prog W 0 (fun _ => true) true 38 v d p) :
    ∃ xs, SeesG taC 5 Ta.nil W v xs ∧ (∀ x ∈ xs, True) ∧ ((d.weights Try.prog 38).all (· ≤ reachBytes) = true → xs.length * 40 ≤ 140737488351232 ∧ ∀ x ∈ xs, True) :=
  opensGW Ta.nil (R := fun _ => True) (Q := fun _ => True) Try.underlying38 (by kernel_rfl) (by decide) taC_len (by kernel_rfl) ta20_cells hok h
/-- A script, in a world and in all that leave it as it was. -/
structure Scr (w0 : World) (v : Value) (xs : List Ow) : Prop where
  sees : SeesG owC 7 Ow.nil w0 v xs
  each : ∀ x ∈ xs, Sees .i64 w0 x.u x.ws
theorem getD_memW (xs : List Ow) (k : Nat) (h : k < xs.length) : xs.getD k Ow.nil ∈ xs := by simp [List.getD, h]
/-- One call of it. -/
theorem Scr.at {w0 w : World} {v : Value} {xs : List Ow} (h : Scr w0 v xs) (hb : Below w0.heap.size w0 w) {j : Nat} (hj : j < xs.length) {o : Ow} (ho : xs.getD j Ow.nil = o) : ∃ p off cap, v = .slice (some ⟨p, off, none⟩) xs.length cap ∧ xs.length ≤ cap ∧ cap ≤ 9223372036854775807 ∧ (w.cell? ⟨p, off + j * 7, none⟩ = some (.int .i64 o.k) ∧ w.cell? ⟨p, off + j * 7 + 1, none⟩ = some (.int .i64 o.on) ∧ w.cell? ⟨p, off + j * 7 + 2, none⟩ = some (.int .i64 o.h) ∧ w.cell? ⟨p, off + j * 7 + 3, none⟩ = some (.int .u64 o.s) ∧ w.cell? ⟨p, off + j * 7 + 4, none⟩ = some (.int .u64 o.c) ∧ w.cell? ⟨p, off + j * 7 + 5, none⟩ = some (.int .u64 o.r) ∧ w.cell? ⟨p, off + j * 7 + 6, none⟩ = some o.u) ∧ Sees .i64 w o.u o.ws ∧ (o.ws ≠ [] → ∀ k, ftV o.u k → k < w0.heap.size) := by
  have hs := h.sees.below hb (Nat.le_refl _)
  have he := h.each _ (getD_memW xs j hj)
  rw [ho] at he
  obtain ⟨a, cap, rfl, h1, h2, _, h3⟩ := hs
  unfold maxLen at h2
  obtain ⟨p, off, rfl, _, hat⟩ := h3 (fun e => by rw [e] at hj; simp at hj)
  have d0 := hat j hj 0 (by omega)
  have d1 := hat j hj 1 (by omega)
  have d2 := hat j hj 2 (by omega)
  have d3 := hat j hj 3 (by omega)
  have d4 := hat j hj 4 (by omega)
  have d5 := hat j hj 5 (by omega)
  have d6 := hat j hj 6 (by omega)
  rw [ho] at d0 d1 d2 d3 d4 d5 d6
  refine ⟨p, off, cap, rfl, h1, by omega, ⟨d0, d1, d2, d3, d4, d5, d6⟩, he.below hb (Nat.le_refl _), fun hne k hk => ?_⟩
  obtain ⟨a', c', e1, _, _, hn, _, hc⟩ := he
  obtain ⟨b, of, rfl, hlt, _⟩ := hc hne
  rw [e1] at hk
  have : b = k := Option.some.inj hk
  omega
/-- What a call tells. -/
def tellL (l : List To) (o : Ow) : Int × List To := if o.k = 0 then ranL l o.h o.s o.c o.r else missedL l o.ws
set_option maxHeartbeats 6400000 in
theorem wtell {w0 w : World} {b : Nat} {F : Ft} {l L : List To} (h : Lz w0 w b F l) (o : Ow) (hs : ∀ wx, Below w0.heap.size w0 wx → Sees .i64 wx o.u o.ws) (hz : o.ws.length * 8 ≤ 140737488351232) {E : Int} (HQ : Hid (tellL l o = (E, L))) :
    Calls Try.prog 10 #[.pointer (some ⟨b, 0, none⟩), .agg #[.int .i64 o.k, .int .i64 o.on, .int .i64 o.h, .int .u64 o.s, .int .u64 o.c, .int .u64 o.r, o.u]] w fun e w' => e = .returned (.int .i64 E) ∧ ∃ F', Lz w0 w' b F' L ∧ Nx w w' F F' := by
  obtain ⟨i0, hi0, hz0, hzs, hzb⟩ := info_parts (show (Try.prog.info? 3).map (fun i => (i.zero, i.size, i.bytes)) = some (some (.int .i64 0), 1, 8) by kernel_rfl)
  have HSA := keepG hs
  have HL := keepG h
  have HZW : Hid (o.ws.length * 8 ≤ 140737488355328) := Nat.le_trans hz (by decide)
  obtain ⟨oa, oc, ev⟩ := (hs w h.be).shape
  obtain ⟨ok, on, oh, os, oC, oR, ou, ow⟩ := o
  simp only at ev hz HSA HZW
  subst ev
  obtain ⟨X, HX, hbX, HPX⟩ : ∃ X, Hid (w.alloc (.cells #[.int .i64 ok, .int .i64 on, .int .i64 oh, .int .u64 os, .int .u64 oC, .int .u64 oR, .slice oa ow.length oc] 31) = X) ∧ Below w.heap.size w X ∧ Hid (Hp X w.heap.size 31 (owC ⟨ok, on, oh, os, oC, oR, .slice oa ow.length oc, ow⟩)) := ⟨_, rfl, below_allocG _ _, Hp.new w _ _⟩
  have HLX := keepG (h.below hbX)
  have q0 := HPX.out.cell (j := 0) rfl
  have q2 := HPX.out.cell (j := 2) rfl
  have q3 := HPX.out.cell (j := 3) rfl
  have q4 := HPX.out.cell (j := 4) rfl
  have q5 := HPX.out.cell (j := 5) rfl
  have q6 := HPX.out.cell (j := 6) rfl
  have hq := HQ.out
  unfold tellL at hq
  simp only at hq
  clear h hs HQ
  by_cases hk : ok = 0
  · subst hk
    rw [if_pos rfl] at hq
    have HQ2 := keepG hq
    clear hq
    go_enter Try.func10, Try.ntmps10
    go_wp2_with (first
      | (go_at_call 16; go_must (refine (HLX.out.ran oh os oC oR HQ2).mono ?_); rintro e w2 ⟨rfl, F2, hl2, hn2⟩; go_must (have HL2 := keepG hl2; have HN2 := keepG hn2; clear hl2 hn2))
      | (rw [HX.out]))
    go_ret
    exact ⟨rfl, F2, HL2.out, (Nx.below hbX).trans HN2.out⟩
  · rw [if_neg hk] at hq
    have HQ2 := keepG hq
    have hkb : (ok == 0) = false := by simpa using hk
    obtain ⟨Z, HZ, hbZ, HOZ⟩ : ∃ Z, Hid (X.alloc (.cells #[] 3) = Z) ∧ Below X.heap.size X Z ∧ Hid (Z.ownsRow X.heap.size 3 1 (.slice (some ⟨X.heap.size, 0, none⟩) 0 0) ([] : List Int).length (([] : List Int).map (Value.int .i64))) := ⟨_, rfl, below_allocG _ _, ⟨by simp, .inr ⟨X.heap.size, 0, #[], rfl, Nat.le_refl _, heap_alloc_new X _, Nat.le_refl _, by simp [maxLen], by simp, by simp⟩⟩⟩
    have HLZ := keepG (HLX.out.below hbZ)
    have HSZ := keepG (HSA.out Z HLZ.out.be)
    have q6Z := (HPX.out.below hbZ HPX.out.lt).cell (j := 6) rfl
    have hXl0 : w.heap.size < X.heap.size := HPX.out.lt
    have hXn0 : ¬ w.heap.size = X.heap.size := by omega
    clear hq
    go_enter Try.func10, Try.ntmps10
    go_wp2_with (first
      | (go_at_call 17; go_must (refine (HL8.out.missed HS8.out (fun _ k hk e => by have h5 := HLX.out.lies k hk; have h6 := (HO8.out.lt k e).1; omega) HQ2).mono ?_); rintro e w2 ⟨rfl, F2, hl2, hn2⟩; go_must (have HL2 := keepG hl2; have HN2 := keepG hn2; clear hl2 hn2))
      | (at_builtin; rw [HZ.out]; go_must (refine wpList_append_sees rfl _ _ 29 rfl X.heap.size 3 i0 _ 8 Try.underlying29 hi0 hz0 hzs hzb rfl .i64 (.slice (some ⟨X.heap.size, 0, none⟩) 0 0) [] rfl HOZ.out _ ow rfl HSZ.out (by unfold maxLen; simp; omega) (by simp; omega) hbZ.size ?_); intro v8 w8 hown8 hgr8; go_must (rw [List.nil_append] at hown8; have hb8 : Below X.heap.size X w8 := hbZ.trans ((Below.refl _ _).grown hgr8 hbZ.size (fun k hk => by have : X.heap.size = k := Option.some.inj hk; omega)); have HB8 := keepG hb8; have HL8 := keepG (HLX.out.below hb8); have HO8 := keepG hown8; have HS8 := keepG (Sees.own hown8 HSZ.out.wf); obtain ⟨va8, vc8, rfl⟩ := own_shape hown8; clear hown8 hgr8 hb8))
      | (rw [HX.out]))
    go_ret
    exact ⟨rfl, F2, HL2.out, ((Nx.below hbX).trans (Nx.below HB8.out)).trans HN2.out⟩
end Go.Proofs.Ytjhjfojmojjomaa
