/-
  What the project's Decode does: the module of bytes, or the place of the first wrong field and the error. Condition: the bytes lie where the slice says.
-/
import Derived.Test.YtbpjcppgnndaaaaW4Code
namespace Go.Proofs.Ytbpjcppgnndaaaa
open Go.RowKit
set_option linter.unusedVariables false
set_option maxRecDepth 100000

/-- The block of a module. -/
def MdC (w : World) (n : Nat) (vm vc : Value) : Prop := w.heap[n]? = some (.cells #[vm, vc] 25 (0, 0))
theorem MdC.cells {w : World} {n : Nat} {vm vc : Value} (h : MdC w n vm vc) : w.cell? ⟨n, 0, none⟩ = some vm ∧ w.cell? ⟨n, 1, none⟩ = some vc := ⟨cell_of_row w n 0 _ _ _ h, cell_of_row w n 1 _ _ _ h⟩
theorem MdC.frozen {w : World} {n : Nat} {vm vc : Value} (h : MdC w n vm vc) (j : Nat) : w.frozen? ⟨n, j, none⟩ = false := frozen_of_row w n j _ _ h
theorem MdC.lt {w : World} {n : Nat} {vm vc : Value} (h : MdC w n vm vc) : n < w.heap.size := (Array.getElem?_eq_some_iff.1 h).1
theorem MdC.kept {w w' : World} {n : Nat} {vm vc : Value} {row : Option Nat} (h : MdC w n vm vc) (hg : w.grownBy w' row) (hr : row ≠ some n) : MdC w' n vm vc := by
  unfold MdC
  rw [hg.block n h.lt (fun e => hr e.symm)]; exact h
theorem MdC.below {w w' : World} {n : Nat} {vm vc : Value} {B : Nat} (h : MdC w n vm vc) (hb : Below B w w') (hB : n < B) : MdC w' n vm vc := by
  unfold MdC
  rw [hb.block n hB]; exact h
theorem MdC.new (w : World) (vm vc : Value) : MdC (w.alloc (.cells #[vm, vc] 25)) w.heap.size vm vc := heap_alloc_new w _
theorem MdC.set {w : World} {n : Nat} {vm vc : Value} (h : MdC w n vm vc) (um uc : Value) : MdC ((w.setCell ⟨n, 0, none⟩ um).setCell ⟨n, 1, none⟩ uc) n um uc := heap_setCell_same _ n 1 _ _ _ (heap_setCell_same w n 0 _ _ _ h)
abbrev modV (vm vc : Value) : Value := .agg #[vm, vc]

theorem keepH {p : Prop} (h : p) : Hid p := h
/-- Halfway through Decode. -/
structure Dec (w wk : World) (V : Value) (L : Nat) (s : St) : Prop where
  g : Below w.heap.size w wk
  at' : RdAt wk (w.heap.size + 1) V L s
  md : MdC wk w.heap.size (.slice none 0 0) (.slice none 0 0)
theorem Dec.call {w wk w' : World} {V : Value} {L : Nat} {s s' : St} (h : Dec w wk V L s) (hg : wk.grownBy w' (some (w.heap.size + 1))) (hat : RdAt w' (w.heap.size + 1) V L s') : Dec w w' V L s' :=
  ⟨h.g.grown hg h.g.size (fun k hk => by injection hk with hk; omega), hat, h.md.kept hg (by simp)⟩
theorem dec_new (w : World) (V : Value) : RdC ((w.alloc (.cells #[.slice none 0 0, .slice none 0 0] 25)).alloc (.cells #[V, .int .i64 0, .int .i64 0, .int .i64 0] 53)) (w.heap.size + 1) V 0 0 0 ∧
    MdC ((w.alloc (.cells #[.slice none 0 0, .slice none 0 0] 25)).alloc (.cells #[V, .int .i64 0, .int .i64 0, .int .i64 0] 53)) w.heap.size (.slice none 0 0) (.slice none 0 0) ∧
    Below w.heap.size w ((w.alloc (.cells #[.slice none 0 0, .slice none 0 0] 25)).alloc (.cells #[V, .int .i64 0, .int .i64 0, .int .i64 0] 53)) := by
  refine ⟨?_, (MdC.new w _ _).kept (grown_alloc _ _ none) (by simp), ((Below.refl _ _).alloc (Nat.le_refl _) _).alloc (by simp) _⟩
  have := heap_alloc_new (w.alloc (.cells #[.slice none 0 0, .slice none 0 0] 25)) (.cells #[V, .int .i64 0, .int .i64 0, .int .i64 0] 53)
  rw [World.size_alloc] at this
  exact this
/-- A struct in its block and two temporaries, handed back. -/
theorem results_mod {P : Program} {fn : Func} {p u v : Tmp} {ty : TypeId} (h : fn.results = #[.cell p ty, .tmp u, .tmp v]) (tmps : Array Value) (w : World) (g : Nat) (t : TypeId) (cs : Array Value) (fr : Nat × Nat) (d : TypeDesc)
    (hp : tmps.getD p undef = .pointer (some ⟨g, 0, none⟩)) (hg : w.heap[g]? = some (.cells cs t fr))
    (hu : P.underlying ty = some d) (hd : (match d with | .struct _ | .array _ _ => true | _ => false) = true) (hi : (P.info? ty).map (·.size) = some cs.size) :
    (results fn tmps).run P w = .ok (.tuple #[.agg cs, tmps.getD u undef, tmps.getD v undef]) w := by
  have hp' : tmps[p]?.getD undef = .pointer (some ⟨g, 0, none⟩) := by simpa using hp
  simp [results, h, hp', asAddr, run_loadVar_row w g t ty cs fr d hg hu hd hi]
theorem RdAt.tells {w : World} {br : Nat} {v : Value} {L : Nat} {s : St} {p q e : Int} (h : RdAt w br v L s) (hz : RdC w br v p q e) : (∃ k, s = .ok k ∧ e = 0) ∨ (s = .error (q, e) ∧ e ≠ 0) := by
  cases s with
  | ok k =>
    refine .inl ⟨k, rfl, ?_⟩
    have h2 := h.2
    unfold RdC at h2 hz
    rw [h2] at hz
    injection hz with hz
    injection hz with hz
    have := congrArg (fun (x : Array Value) => x[3]?) hz
    simp at this
    exact this.symm
  | error x =>
    obtain ⟨q', e'⟩ := x
    obtain ⟨he, z, h2⟩ := h
    unfold RdC at h2 hz
    rw [h2] at hz
    injection hz with hz
    injection hz with hz
    have a := congrArg (fun (x : Array Value) => x[2]?) hz
    have b := congrArg (fun (x : Array Value) => x[3]?) hz
    simp at a b
    subst a b
    exact .inr ⟨rfl, he⟩
/-- The whole of Decode. -/
theorem dec_after {xs : List Int} {s1 s2 s3 s4 : St} {ms : List Int} {is : List In} (h1 : After (.ok 0) (headR xs 3) s1 ()) (h2 : After s1 (mapsA xs) s2 ms) (h3 : After s2 (codeA xs) s3 is) (h4 : After s3 (endR xs) s4 ()) : (decR xs).Tells s4 (ms, is) := by
  have key : After (.ok 0) (fun p => (headR xs 3 p).then' fun _ p => (mapsA xs p).then' fun ms p => (codeA xs p).then' fun is p => (endR xs p).then' fun _ p => .ok ((ms, is), p)) s4 (ms, is) :=
    After.then' h1 (After.then' h2 (After.then' h3 (After.then' h4 (by cases s4 <;> rfl))))
  exact key
theorem dec_ok {xs : List Int} {p : Nat} {ms : List Int} {is : List In} (h : (decR xs).Tells (.ok p) (ms, is)) : decL xs = ((ms, is), 0, 0) := by
  have h : decR xs = .ok ((ms, is), p) := h
  unfold decL; rw [h]
theorem dec_bad {xs : List Int} {q e : Int} {m : List Int × List In} (h : (decR xs).Tells (.error (q, e)) m) : decL xs = (([], []), q, e) := by
  have h : decR xs = .error (q, e) := h
  unfold decL; rw [h]
theorem own_base' {w : World} {base base' : Nat} {e : TypeId} {size : Nat} {v : Value} {n : Nat} {xs : List Value} (h : w.ownsRow base' e size v n xs) (hb : base ≤ base') : w.ownsRow base e size v n xs := own_base h hb
theorem own_apart2 {w w' : World} {B : Nat} {e e' : TypeId} {z z' : Nat} {v v' : Value} {n n' : Nat} {xs xs' : List Value} (h : w.ownsRow B e z v n xs) (h' : w'.ownsRow w.heap.size e' z' v' n' xs') : ∀ k, v.ownBlock = some k → v'.ownBlock ≠ some k := fun k hk hk' => by
  have a := (h.lt k hk).2
  have b := (h'.lt k hk').1
  omega

set_option maxHeartbeats 3200000 in
theorem decode_any (v : Value) (xs : List Int) (w : World) (h : Sees .u8 w v xs) :
    Calls Try.prog 14 #[v] w fun e w' => ∃ vm vc, e = .returned (.tuple #[modV vm vc, .int .i64 (decL xs).2.1, .int .i64 (decL xs).2.2]) ∧
      w'.ownsRow w.heap.size 3 1 vm (decL xs).1.1.length ((decL xs).1.1.map (Value.int .i64)) ∧ w'.ownsRow w.heap.size 45 5 vc (decL xs).1.2.length (flat (decL xs).1.2) ∧ (∀ k, vm.ownBlock = some k → vc.ownBlock ≠ some k) ∧ Below w.heap.size w w' := by
  have h0 := h
  obtain ⟨a, cap, rfl, hl, hm, hn0, hw, hs⟩ := h
  have HNE : Hid (xs = [] ∨ (Value.slice a xs.length cap).ownBlock ≠ some (w.heap.size + 1)) := by
    by_cases hx : xs = []
    · exact .inl hx
    · obtain ⟨b, off, rfl, hlt, _⟩ := hs hx
      refine .inr ?_
      simp [Value.ownBlock]
      omega
  have HS : Hid (∀ w', Below w.heap.size w w' → Sees .u8 w' (.slice a xs.length cap) xs) := fun w' hb => h0.below hb (Nat.le_refl _)
  have HL : Hid (xs.length ≤ cap ∧ cap ≤ 9223372036854775807) := ⟨hl, hm⟩
  obtain ⟨r0, m0, b0⟩ := dec_new w (.slice a xs.length cap)
  have HR0 := keepH r0
  have HM0 := keepH m0
  have HB0 := keepH b0
  clear hs h0 hl hm hn0 hw r0 m0 b0
  go_enter Try.func14, Try.ntmps14
  go_wp2_with (first
    | (go_at_call 24; go_must (refine (head_any (w.heap.size + 1) a cap xs _ HR0.out (HS.out _ HB0.out) HNE.out).mono ?_); rintro e w1 ⟨rfl, s1, hat, ha, hg⟩; go_must (have A1 : Hid (After (.ok 0) (headR xs 3) s1 ()) := ha; have D1 : Dec w w1 (.slice a xs.length cap) xs.length s1 := ⟨HB0.out.grown hg HB0.out.size (fun k hk => by injection hk with hk; omega), hat, HM0.out.kept hg (by simp)⟩; have I1 : Hid (Dec w w1 (.slice a xs.length cap) xs.length s1) := D1; clear D1 ha hat hg))
    | (go_at_call 25; go_must (refine (maps_any (w.heap.size + 1) a cap xs s1 _ I1.out.at' (HS.out _ I1.out.g) HNE.out).mono ?_); rintro e w2 ⟨vm, rfl, s2, ms, hown, hml, hms, hat, ha, hg⟩; go_must (have A2 : Hid (After s1 (mapsA xs) s2 ms) := ha; have D2 := I1.out.call hg hat; have O2 : Hid (w2.ownsRow w1.heap.size 3 1 vm ms.length (ms.map (Value.int .i64))) := hown; have I2 : Hid (Dec w w2 (.slice a xs.length cap) xs.length s2) := D2; have hz1 : w.heap.size + 1 < w1.heap.size := I1.out.at'.lt; obtain ⟨am, km, hvm⟩ := (Sees.own hown (wf_small hms)).shape; clear D2 ha hat hg hown hms; subst hvm))
    | (go_at_call 26; go_must (refine (code_any (w.heap.size + 1) a cap xs s2 _ I2.out.at' (HS.out _ I2.out.g) HNE.out).mono ?_); rintro e w3 ⟨vc, rfl, s3, is, hown, hil, his, hat, ha, hg⟩; go_must (have A3 : Hid (After s2 (codeA xs) s3 is) := ha; have D3 := I2.out.call hg hat; have O3 : Hid (w3.ownsRow w2.heap.size 45 5 vc is.length (flat is)) := hown; have AP := keepH (own_apart2 O2.out hown); have O2' : Hid (w3.ownsRow w1.heap.size 3 1 (.slice am ms.length km) ms.length (ms.map (Value.int .i64))) := O2.out.kept hg (own_far O2.out hz1); have I3 : Hid (Dec w w3 (.slice a xs.length cap) xs.length s3) := D3; have hz2 : w.heap.size + 1 < w2.heap.size := I2.out.at'.lt; obtain ⟨ac, kc, hvc⟩ := ownI_seesI_shape hown; clear D3 ha hat hg hown his; subst hvc))
    | (go_at_call 27; go_must (refine (end_any (w.heap.size + 1) a cap xs s3 _ I3.out.at' HL.out.2 HL.out.1).mono ?_); rintro e w4 ⟨rfl, s4, hat, ha, hg⟩; go_must (have A4 : Hid (After s3 (endR xs) s4 ()) := ha; have D4 := I3.out.call hg hat; have O4 : Hid (w4.ownsRow w2.heap.size 45 5 (.slice ac is.length kc) is.length (flat is)) := O3.out.kept hg (own_far O3.out hz2); have O5 : Hid (w4.ownsRow w1.heap.size 3 1 (.slice am ms.length km) ms.length (ms.map (Value.int .i64))) := O2'.out.kept hg (own_far O2'.out hz1); obtain ⟨p, q, e, hz⟩ := hat.open; obtain ⟨c0, c1, c2, c3⟩ := hz.cells; obtain ⟨d0, d1⟩ := D4.md.cells; have f0 := D4.md.frozen 0; have f1 := D4.md.frozen 1; have HZ : Hid (RdC w4 (w.heap.size + 1) (.slice a xs.length cap) p q e) := hz; have I4 : Hid (Dec w w4 (.slice a xs.length cap) xs.length s4) := D4; clear D4 ha hat hg hz)))
  · have hne : (e != 0) = true := by assumption
    have hen : e ≠ 0 := by simpa using hne
    have HE : Hid (decL xs = (([], []), q, e)) := by
      rcases I4.out.at'.tells HZ.out with ⟨k, _, h⟩ | ⟨h, _⟩
      · exact absurd h hen
      · have hd := dec_after A1.out A2.out A3.out A4.out
        rw [h] at hd
        exact dec_bad hd
    go_region
    all_goals go_wp2_with fail
    all_goals
      refine bodyPost_ret (results_mod rfl _ _ w.heap.size _ #[.slice none 0 0, .slice none 0 0] (0, 0) _ rfl (MdC.set (vm := .slice none 0 0) (vc := .slice none 0 0) (I4.out.md.kept (grown_drewN _ _ none) (by simp)) _ _) Try.underlying25 rfl (by kernel_rfl)) rfl ?_
      rw [HE.out]
      exact ⟨_, _, rfl, World.ownsRow_nil _ _ _ _, World.ownsRow_nil _ _ _ _, by simp [Value.ownBlock], (((below_drewN I4.out.g _).setCell (p := ⟨w.heap.size, 0, none⟩) (Nat.le_refl _) _).setCell (p := ⟨w.heap.size, 1, none⟩) (Nat.le_refl _) _)⟩
  · have hne : (e != 0) = false := by assumption
    have he0 : e = 0 := by simpa using hne
    have HE : Hid (decL xs = ((ms, is), 0, 0)) := by
      rcases I4.out.at'.tells HZ.out with ⟨k, h, _⟩ | ⟨_, h⟩
      · have hd := dec_after A1.out A2.out A3.out A4.out
        rw [h] at hd
        exact dec_ok hd
      · exact absurd he0 h
    have hs2 := I2.out.g.size
    have hg4 := (grown_set w4 ⟨w.heap.size, 0, none⟩ (.slice am ms.length km)).trans (grown_set _ ⟨w.heap.size, 1, none⟩ (.slice ac is.length kc))
    refine bodyPost_ret (results_mod rfl _ _ w.heap.size _ #[.slice am ms.length km, .slice ac is.length kc] (0, 0) _ rfl (I4.out.md.set _ _) Try.underlying25 rfl (by kernel_rfl)) rfl ?_
    rw [HE.out]
    exact ⟨_, _, rfl, own_base (O5.out.kept hg4 (own_far (br := w.heap.size) O5.out (by omega))) (by omega), own_base (O4.out.kept hg4 (own_far (br := w.heap.size) O4.out (by omega))) (by omega), AP.out, ((I4.out.g.setCell (p := ⟨w.heap.size, 0, none⟩) (Nat.le_refl _) _).setCell (p := ⟨w.heap.size, 1, none⟩) (Nat.le_refl _) _)⟩
end Go.Proofs.Ytbpjcppgnndaaaa
