/-
  W23Aw
  W23Rk
  W23RuD
  W23RuB
  W23RuE
-/
import Derived.Test.YtkondcjmhlppiaaGreatMW48
import Derived.Test.YtkondcjmhlppiaaGreatMW47
import Derived.Test.YtkondcjmhlppiaaGreatMW45
import Derived.Test.YtkondcjmhlppiaaGreatMW0
namespace Go.Proofs.YtkondcjmhlppiaaGreat
open Go.RowKit
set_option linter.unusedVariables false
set_option linter.unusedSimpArgs false
set_option maxRecDepth 100000
set_option maxRecDepth 1000000
structure Lz (w0 w : World) (b : Nat) (F : Ft) (k : Wk) : Prop where
 ex : ∃ B, B <= w.heap.size /\ Lk w B b F k
 since : Since w0 F
 ok : k.Ok
 be : Below w0.heap.size w0 w
section
variable {w0 w w' : World} {b : Nat} {F F' G : Ft} {k k' : Wk}
theorem Lz.lies (h : Lz w0 w b F k) : Lies w F := by
 obtain ⟨B, _, h1⟩ := h.ex
 exact h1.lies
theorem Lz.keeps (h : Lz w0 w b F k) (hc : Chg w w' G) (ha : Apt G F) (hs : Since w0 G) : Lz w0 w' b F k := by
 obtain ⟨B, h0, h1⟩ := h.ex
 exact ⟨⟨B, Nat.le_trans h0 hc.size, h1.keeps hc ha⟩, h.since, h.ok, h.be.trans (hc.below (fun k e => hs k e) h.be.size)⟩
theorem Lz.below (h : Lz w0 w b F k) (hb : Below w.heap.size w w') : Lz w0 w' b F k := h.keeps (Chg.of_below (S := fun _ => False) hb) (fun _ e => e.elim) (fun _ e => e.elim)
theorem Lz.go (h : Lz w0 w b F k) (hx : ∃ B, B <= w.heap.size /\ Lk w' B b F' k') (hk : k'.Ok) (hn : Nx w w' F F') : Lz w0 w' b F' k' := by
 obtain ⟨B, h0, h1⟩ := hx
 exact ⟨⟨B, Nat.le_trans h0 hn.chg.size, h1⟩, h.since.next h.be.size hn, hk, h.since.be h.be hn⟩
theorem lznew (w : World) : Calls Tryz.prog 5 #[] w fun e w' => ∃ b F, e = .returned (.pointer (some ⟨b, 0, none⟩)) /\ Lz w w' b F Wk.new /\ Since w F := by
 refine (lknew w).mono ?_
 rintro e w' ⟨b, F, rfl, h, hs, hb⟩
 exact ⟨b, F, rfl, ⟨⟨_, hb.size, h⟩, hs, Wk.Ok.new, hb⟩, hs⟩
theorem Lz.take (h : Lz w0 w b F k) (x n : Int) (ev : Int × Int) (he : evIn ev) {E : Int} (HQ : Hid (k.take x n ev = (E, k'))) : Calls Tryz.prog 7 #[.pointer (some ⟨b, 0, none⟩), .int .i64 x, qdV n ev] w fun e w' => e = .returned (.int .i64 E) /\ ∃ F', Lz w0 w' b F' k' /\ Nx w w' F F' := by
 obtain ⟨B, h0, h1⟩ := h.ex
 refine (h1.take h.ok h0 x n ev HQ).mono ?_
 rintro e w' ⟨rfl, F', h2, hn⟩
 exact ⟨rfl, F', h.go ⟨B, h0, h2⟩ (h.ok.take he HQ.out) hn, hn⟩
theorem Lz.enter (h : Lz w0 w b F k) (v p : Int) {vm vc : Value} {ms : List Int} {xs : List In} (hm : SeesM w vm vc ms xs) (ha1 : ms ≠ [] -> Apt F (ftV vm)) (ha2 : xs ≠ [] -> Apt F (ftV vc)) {E : Int} (HQ : Hid (k.enter v p ms xs = (E, k'))) : Calls Tryz.prog 10 #[.pointer (some ⟨b, 0, none⟩), .int .i64 v, .int .i64 p, modV vm vc] w fun e w' => e = .returned (.int .i64 E) /\ ∃ F', Lz w0 w' b F' k' /\ Nx w w' F F' := by
 obtain ⟨B, h0, h1⟩ := h.ex
 refine (h1.enter h.ok h0 v p hm ha1 ha2 HQ).mono ?_
 rintro e w' ⟨rfl, F', h2, hn⟩
 refine ⟨rfl, F', h.go ⟨B, h0, h2⟩ (h.ok.enter (fun hj => ?_) HQ.out) hn, hn⟩
 cases hi : inqR ms xs with
 | ok K => obtain ⟨_, ⟨known, hK, _⟩, _⟩ := judge_known hi; exact ⟨known, hK⟩
 | error e =>
  obtain ⟨P, E⟩ := e
  have hE : E ≠ 0 := inq_errorE hi (fun e h => (run_errorE (p := e.1) (E := e.2) h).2)
  unfold judgeR at hj
  rw [hi] at hj
  exact absurd hj hE
theorem Lz.skip (h : Lz w0 w b F k) {E : Int} (HQ : Hid (k.skip = (E, k'))) : Calls Tryz.prog 12 #[.pointer (some ⟨b, 0, none⟩)] w fun e w' => e = .returned (.int .i64 E) /\ ∃ F', Lz w0 w' b F' k' /\ Nx w w' F F' := by
 obtain ⟨B, h0, h1⟩ := h.ex
 refine (h1.skip h.ok h0 HQ).mono ?_
 rintro e w' ⟨rfl, F', h2, hn⟩
 exact ⟨rfl, F', h.go ⟨B, h0, h2⟩ (h.ok.skip HQ.out) hn, hn⟩
theorem Lz.step (h : Lz w0 w b F k) {a : Ac} {r : Bool} (HQ : Hid (k.step = (a, r, k'))) : Calls Tryz.prog 15 #[.pointer (some ⟨b, 0, none⟩)] w fun e w' => e = .returned (.tuple #[acV a, .bool r]) /\ ∃ F', Lz w0 w' b F' k' /\ Nx w w' F F' := by
 obtain ⟨B, h0, h1⟩ := h.ex
 refine (h1.step h.ok h0 HQ).mono ?_
 rintro e w' ⟨rfl, F', h2, hn⟩
 exact ⟨rfl, F', h.go ⟨B, h0, h2⟩ (h.ok.step HQ.out) hn, hn⟩
theorem Lz.answer (h : Lz w0 w b F k) (r : Rs) (hr : r.wf) (hv : 0 <= r.v /\ r.v <= 18446744073709551615) {E : Int} (HQ : Hid (k.answer r.E r.f r.v = (E, k'))) : Calls Tryz.prog 16 #[.pointer (some ⟨b, 0, none⟩), resV r.E r.f r.v r.o r.k r.u] w fun e w' => e = .returned (.int .i64 E) /\ ∃ F', Lz w0 w' b F' k' /\ Nx w w' F F' := by
 obtain ⟨B, h0, h1⟩ := h.ex
 refine (h1.answer h.ok h0 r hr HQ).mono ?_
 rintro e w' ⟨rfl, F', h2, hn⟩
 exact ⟨rfl, F', h.go ⟨B, h0, h2⟩ (h.ok.answer hv HQ.out) hn, hn⟩
theorem Lz.mode (h : Lz w0 w b F k) : Calls Tryz.prog 11 #[.pointer (some ⟨b, 0, none⟩)] w fun e w' => e = .returned (.int .i64 k.md) /\ Below w.heap.size w w' := by
 obtain ⟨B, h0, h1⟩ := h.ex
 exact h1.mode
theorem Lz.runs (h : Lz w0 w b F k) : Calls Tryz.prog 14 #[.pointer (some ⟨b, 0, none⟩)] w fun e w' => e = .returned (.tuple #[.int .i64 k.ve, .int .i64 k.pg]) /\ Below w.heap.size w w' := by
 obtain ⟨B, h0, h1⟩ := h.ex
 exact h1.runs
end
def awX : List In := [⟨13, 0, 0, 0, 0⟩, ⟨22, 0, 0, 0, 0⟩]
def awK1 : Wk := ⟨1, 1, 4, (5, 0), 0, 0, 0, [], [], startE, []⟩
def awK2 : Wk := ⟨2, 1, 4, (5, 0), 3, 7, 0, [], awX, { startE with cs := startE.cs }, []⟩
theorem aw_take : Wk.new.take 1 4 (5, 0) = (0, awK1) := rfl
theorem aw_judge : (judgeR [] awX).2 = 0 := by decide +kernel
theorem aw_enter : awK1.enter 3 7 [] awX = (0, awK2) := by
 unfold Wk.enter
 rw [if_neg (by decide), if_neg (by rw [aw_judge]; decide)]
 rfl
theorem aw_step : ∃ k3 a, awK2.step = (a, true, k3) /\ ∃ k4, k3.step = (⟨4, 1, 0, 0, 0, 0, 5⟩, true, k4) /\ k4.md = 0 /\ k4.td = [⟨1, false, 2, 0, 5⟩] := ⟨_, _, rfl, _, rfl, rfl, rfl⟩
theorem aw_of : (if isH 1 = true then (ofL 1 [⟨1, false, 2, 0, 5⟩], (0 : Int)) else (Ta.nil, 2)) = (⟨1, 0, 2, 0, 5⟩, 0) := by kernel_rfl
theorem sees_none23 (w : World) : Sees .i64 w (.slice none 0 0) [] := ⟨none, 0, rfl, Nat.le_refl _, by unfold maxLen; omega, fun _ => rfl, fun x hx => (by cases hx), fun h => absurd rfl h⟩
theorem aw_wf : ∀ i ∈ awX, i.wf := by
 intro i hi
 simp only [awX, List.mem_cons, List.not_mem_nil, or_false] at hi
 rcases hi with rfl | rfl <;> exact ⟨rfl, rfl, rfl, rfl, rfl⟩
set_option maxHeartbeats 6400000 in
theorem awake23_any (w : World) : Calls Tryz.prog 4 #[] w fun e w' => e = .returned (.bool true) /\ Below w.heap.size w w' := by
 obtain ⟨k3, a3, h3, k4, h4, hm4, ht4⟩ := aw_step
 have HK1 : Hid (Wk.new.take 1 4 (5, 0) = (0, awK1)) := aw_take
 have HK2 : Hid (awK1.enter 3 7 [] awX = (0, awK2)) := aw_enter
 have HK3 : Hid (awK2.step = (a3, true, k3)) := h3
 have HK4 : Hid (k3.step = (⟨4, 1, 0, 0, 0, 0, 5⟩, true, k4)) := h4
 have HM1 : Hid (((awK1.md : Nat) : Int) = 1) := rfl
 have HM4 : Hid (((k4.md : Nat) : Int) = 0) := by show _ = _; rw [hm4]; rfl
 have HOF : Hid ((if isH 1 = true then (ofL 1 k4.td, (0 : Int)) else (Ta.nil, 2)) = (⟨1, 0, 2, 0, 5⟩, 0)) := by show _ = _; rw [ht4]; exact aw_of
 have K1 : Hid True := trivial
 have K2 : Hid True := trivial
 clear h3 h4 hm4 ht4
 go_enter Tryz.func4, Tryz.ntmps4
 go_wp2_with (first
  | (go_at_call 5; go_must (refine (lznew w).mono ?_); rintro e w1 ⟨b, F1, rfl, hL1, -⟩; go_must (have HL1 := keepG hL1; clear hL1))
  | (go_at_call 7; go_must (refine (HL1.out.take 1 4 (5, 0) (by unfold evIn; decide) HK1).mono ?_); rintro e w2 ⟨rfl, F2, hL2, -⟩; go_must (have HL2 := keepG hL2; clear hL2 HL1))
  | (go_at_call 11; (have hq := K1; clear hq); go_must (refine HL2.out.mode.mono ?_); rintro e w3 ⟨rfl, hb3⟩; go_must (have HL3 := keepG (HL2.out.below hb3); clear hb3 K1; rw [HM1.out]; obtain ⟨W4, HW4, HS4, hb4⟩ : ∃ W4, Hid (w3.alloc (.cells #[.int .i64 13, .int .i64 0, .int .i64 0, .int .i64 0, .int .i64 0, .int .i64 22, .int .i64 0, .int .i64 0, .int .i64 0, .int .i64 0] 60) = W4) /\ Hid (SeesM W4 (.slice none 0 0) (.slice (some ⟨w3.heap.size, 0, none⟩) 2 2) [] awX) /\ Below w3.heap.size w3 W4 := ⟨_, rfl, ⟨sees_none23 _, seesI_lit w3 _ awX _ 2 _ rfl rfl rfl (by decide), aw_wf⟩, below_allocG _ _⟩; have HL4 := keepG (HL3.out.below hb4); have HAP : Hid (Apt F2 (ftV (.slice (some ⟨w3.heap.size, 0, none⟩) 2 2))) := (fun j e1 e2 => by (have h1 := HL3.out.lies j e1; have h2 : w3.heap.size = j := Option.some.inj e2; omega)); clear hb4))
  | (go_at_call 10; rw [HW4.out]; go_must (refine (HL4.out.enter 3 7 HS4.out (fun h => absurd rfl h) (fun _ => HAP.out) HK2).mono ?_); rintro e w5 ⟨rfl, F5, hL5, -⟩; go_must (have HL5 := keepG hL5; clear hL5))
  | (go_at_call 15; (have hq := K2; clear hq); go_must (refine (HL5.out.step HK3).mono ?_); rintro e w6 ⟨rfl, F6, hL6, -⟩; go_must (have HL6 := keepG hL6; clear hL6 K2))
  | (go_at_call 15; go_must (refine (HL6.out.step HK4).mono ?_); rintro e w7 ⟨rfl, F7, hL7, -⟩; go_must (have HL7 := keepG hL7; clear hL7; dsimp only [acV, actV]; obtain ⟨W8, HW8, HA8, hb8⟩ : ∃ W8, Hid (w7.alloc (.cells #[.int .i64 4, .int .i64 1, .int .i64 0, .int .i64 0, .int .u64 0, .int .u64 0, .int .u64 5] 71) = W8) /\ Hid (Hp W8 w7.heap.size 71 [.int .i64 4, .int .i64 1, .int .i64 0, .int .i64 0, .int .u64 0, .int .u64 0, .int .u64 5]) /\ Below w7.heap.size w7 W8 := ⟨_, rfl, Hp.new w7 _ _, below_allocG _ _⟩; have HL8 := keepG (HL7.out.below hb8); clear hb8; obtain ⟨B8, -, h8⟩ := HL8.out.ex; obtain ⟨tb, c1, hof⟩ := h8.stat; have HC8 := keepG (hof 1 _ _ HOF); clear h8 hof))
  | (rw [HW8.out])
  | (go_at_call 6; go_must (refine HC8.out.mono ?_); rintro e w9 ⟨rfl, hb9⟩; go_must (have HL9 := keepG (HL8.out.below hb9); have HA9 := keepG (HA8.out.below hb9 HA8.out.lt); clear hb9 c1; dsimp only [taV]; obtain ⟨W10, HW10, HT10, hb10⟩ : ∃ W10, Hid (w9.alloc (.cells #[.int .u64 1, .int .u64 0, .int .u64 2, .int .u64 0, .int .u64 5] 37) = W10) /\ Hid (Hp W10 w9.heap.size 37 [.int .u64 1, .int .u64 0, .int .u64 2, .int .u64 0, .int .u64 5]) /\ Below w9.heap.size w9 W10 := ⟨_, rfl, Hp.new w9 _ _, below_allocG _ _⟩; have HL10 := keepG (HL9.out.below hb10); have HA10 := keepG (HA9.out.below hb10 HA9.out.lt); have a6 := HA10.out.cell (j := 6) rfl; clear hb10))
  | (rw [HW10.out])
  | (go_at_call 11; go_must (refine HL10.out.mode.mono ?_); rintro e w11 ⟨rfl, hb11⟩; go_must (have HL11 := keepG (HL10.out.below hb11); have t0 := (HT10.out.below hb11 HT10.out.lt).cell (j := 0) rfl; have t4 := (HT10.out.below hb11 HT10.out.lt).cell (j := 4) rfl; clear hb11; rw [HM4.out])))
 go_ret
 exact ⟨rfl, HL11.out.be⟩
theorem evAt23 {w : World} {a : Option Addr} {n cap : Nat} {l : List Ev} (h : SeesG evC 6 Ev.nil w (.slice a n cap) l) {j : Nat} (hj : j < l.length) : ∃ p off, a = some ⟨p, off, none⟩ /\ ∀ q, l.getD j Ev.nil = q -> w.cell? ⟨p, off + j * 6, none⟩ = some (.int .i64 q.hk) /\ w.cell? ⟨p, off + j * 6 + 1, none⟩ = some (.int .u64 q.ev.1) /\ w.cell? ⟨p, off + j * 6 + 2, none⟩ = some (.int .u64 q.ev.2) /\ w.cell? ⟨p, off + j * 6 + 3, none⟩ = some q.vm /\ w.cell? ⟨p, off + j * 6 + 4, none⟩ = some q.vc /\ w.cell? ⟨p, off + j * 6 + 5, none⟩ = some q.vr := by
 obtain ⟨a', cap', ev, _, _, _, hat⟩ := h
 simp only [Value.slice.injEq] at ev
 obtain ⟨rfl, _, rfl⟩ := ev
 obtain ⟨p, off, rfl, _, hc⟩ := hat (fun e => by rw [e] at hj; simp at hj)
 refine ⟨p, off, rfl, fun q hq => ?_⟩
 subst hq
 exact ⟨hc j hj 0 (by omega), hc j hj 1 (by omega), hc j hj 2 (by omega), hc j hj 3 (by omega), hc j hj 4 (by omega), hc j hj 5 (by omega)⟩
theorem shapeM23r {w : World} {vm vc : Value} {ms : List Int} {xs : List In} (h : SeesM w vm vc ms xs) : (∃ a c, vm = .slice a ms.length c) /\ ∃ a c, vc = .slice a xs.length c := by
 obtain ⟨a, c, e, _⟩ := h.maps
 obtain ⟨a', c', e', _⟩ := h.code
 exact ⟨⟨a, c, e⟩, a', c', e'⟩
theorem apt_own23r {w w' : World} {F : Ft} {v : Value} {e : TypeId} {z n : Nat} {ys : List Value} (hF : Lies w F) {B : Nat} (hB : w.heap.size <= B) (h : OwnOr w' B e z v n ys) : 0 < n -> Apt F (ftV v) := by
 intro hn k h1 h2
 have := hF k h1
 rcases h with ⟨h0, _⟩ | h
 ·omega
 ·have := h.lt k h2
  omega
def Bz (w : World) (F : Ft) (n : Nat) (t : TypeId) (cs : List Value) : Prop := Hp w n t cs /\ ¬ F n
section
variable {w w' : World} {F F' G : Ft} {n : Nat} {t : TypeId} {cs : List Value}
theorem Bz.below (h : Bz w F n t cs) (hb : Below w.heap.size w w') : Bz w' F n t cs := ⟨h.1.below hb h.1.lt, h.2⟩
theorem Bz.next (h : Bz w F n t cs) (hn : Nx w w' F F') : Bz w' F' n t cs := ⟨h.1.chg hn.chg h.2, fun e => (hn.new n e).elim h.2 (fun g => by have := h.1.lt; omega)⟩
theorem Bz.chg (h : Bz w F n t cs) (hc : Chg w w' G) (hg : ¬ G n) : Bz w' F n t cs := ⟨h.1.chg hc hg, h.2⟩
theorem Bz.cell (h : Bz w F n t cs) {j : Nat} {v : Value} (hj : cs[j]? = some v) : w.cell? ⟨n, j, none⟩ = some v := h.1.cell hj
theorem Bz.made (hF : Lies w F) (t : TypeId) (cs : List Value) : Bz (w.alloc (.cells cs.toArray t)) F w.heap.size t cs := ⟨Hp.new w cs t, fun e => by have := hF _ e; omega⟩
end
structure Rb (B n1 n2 nl : Nat) (ce ct : List Value) (vr vw : Value) (rs : List Rs) (wt : List Ac) (w : World) (F : Ft) (last : Ac) : Prop where
 ev : Bz w F n1 35 ce
 ta : Bz w F n2 37 ct
 la : Bz w F nl 71 (acC last)
 rs : w.ownsRow B 62 6 vr rs.length (flatR rs)
 ra : Apt F (ftV vr)
 wa : w.ownsRow B 71 7 vw wt.length (flatX wt)
 aa : Apt F (ftV vw)
 ne : n1 ≠ nl /\ n2 ≠ nl /\ (∀ j, vr.ownBlock = some j -> j ≠ nl) /\ ∀ j, vw.ownBlock = some j -> j ≠ nl
section
variable {B n1 n2 nl : Nat} {ce ct : List Value} {vr vw : Value} {rs : List Rs} {wt : List Ac} {w w' : World} {F F' : Ft} {last : Ac}
theorem Rb.next (h : Rb B n1 n2 nl ce ct vr vw rs wt w F last) (hn : Nx w w' F F') : Rb B n1 n2 nl ce ct vr vw rs wt w' F' last :=
 ⟨h.ev.next hn, h.ta.next hn, h.la.next hn, own_keeps h.rs hn.chg h.ra, h.ra.next (own_lies h.rs) hn, own_keeps h.wa hn.chg h.aa, h.aa.next (own_lies h.wa) hn, h.ne⟩
theorem Rb.below (h : Rb B n1 n2 nl ce ct vr vw rs wt w F last) (hb : Below w.heap.size w w') : Rb B n1 n2 nl ce ct vr vw rs wt w' F last := h.next (Nx.below hb)
theorem Rb.put (h : Rb B n1 n2 nl ce ct vr vw rs wt w F last) (a : Ac) : Rb B n1 n2 nl ce ct vr vw rs wt (w.setCells nl 0 (acC a)) F a := by
 have hc := Chg.sets w nl 0 (acC a)
 have hs := h.la.1.sets (acC a) 0
 exact ⟨h.ev.chg hc h.ne.1, h.ta.chg hc h.ne.2.1, ⟨hs, h.la.2⟩, own_keeps h.rs hc (fun j e1 e2 => h.ne.2.2.1 j e2 e1), h.ra, own_keeps h.wa hc (fun j e1 e2 => h.ne.2.2.2 j e2 e1), h.aa, h.ne⟩
end
section
variable {B n1 n2 nl : Nat} {ce ct : List Value} {vr vw : Value} {rs : List Rs} {wt : List Ac} {w w' : World} {F F' : Ft} {last : Ac}
theorem own_at23 {w : World} {B : Nat} {e : TypeId} {z : Nat} {a : Option Addr} {n c : Nat} {xs : List Value} (h : w.ownsRow B e z (.slice a n c) n xs) (hn : 0 < n) : ∃ g, a = some ⟨g, 0, none⟩ /\ n <= c /\ c <= 9223372036854775807 := by
 rcases h with ⟨h1, ⟨e1, h2⟩ | ⟨g, cap, cur, e1, hb, hh, h3, h4, h5, h6⟩⟩
 ·omega
 ·injection e1 with e1 e2 e3
  subst e1
  subst e3
  exact ⟨g, rfl, h3, by unfold maxLen at h4; omega⟩
theorem Rb.want {g c : Nat} (h : Rb B n1 n2 nl ce ct vr (.slice (some ⟨g, 0, none⟩) wt.length c) rs wt w F last) {i : Nat} (hi : i < wt.length) {A : Ac} (hA : wt.getD i Ac.nil = A) : w.cell? ⟨g, i * 7, none⟩ = some (.int .i64 A.k) /\ w.cell? ⟨g, i * 7 + 1, none⟩ = some (.int .i64 A.pc) /\ w.cell? ⟨g, i * 7 + 2, none⟩ = some (.int .i64 A.im) /\ w.cell? ⟨g, i * 7 + 3, none⟩ = some (.int .i64 A.io) /\ w.cell? ⟨g, i * 7 + 4, none⟩ = some (.int .u64 A.ik) /\ w.cell? ⟨g, i * 7 + 5, none⟩ = some (.int .u64 A.iv) /\ w.cell? ⟨g, i * 7 + 6, none⟩ = some (.int .u64 A.v) := by
 obtain ⟨g', cap', e, _, _, _, _, hat⟩ := own_acts h.wa hi
 injection e with e1 _ _
 injection e1 with e1
 injection e1 with e1 _ _
 subst e1
 rw [hA] at hat
 exact hat.seven
theorem Rb.ress {g c : Nat} (h : Rb B n1 n2 nl ce ct (.slice (some ⟨g, 0, none⟩) rs.length c) vw rs wt w F last) {i : Nat} (hi : i < rs.length) {r : Rs} (hr : rs.getD i Rs.nil = r) : w.cell? ⟨g, i * 6, none⟩ = some (.int .i64 r.E) /\ w.cell? ⟨g, i * 6 + 1, none⟩ = some (.bool r.f) /\ w.cell? ⟨g, i * 6 + 2, none⟩ = some (.int .u64 r.v) /\ w.cell? ⟨g, i * 6 + 3, none⟩ = some (.bool r.o) /\ w.cell? ⟨g, i * 6 + 4, none⟩ = some (.int .u64 r.k) /\ w.cell? ⟨g, i * 6 + 5, none⟩ = some (.int .u64 r.u) := by
 have h0 := h.rs
 have hc : ∀ j, j < 6 -> w.cell? ⟨g, i * 6 + j, none⟩ = (rsC r)[j]? := fun j hj => by
  rw [h0.cellAt (i * 6 + j) (by omega), <- hr]
  exact flatR_at rs i j hi hj
 exact ⟨hc 0 (by omega), hc 1 (by omega), hc 2 (by omega), hc 3 (by omega), hc 4 (by omega), hc 5 (by omega)⟩
end
theorem trace_pos (ms : List Int) (xs : List In) (ev : Int × Int) (n : Nat) (M : Mc) (rs : List Rs) : 0 < (traceE ms xs ev (n + 1) M rs).length := by
 cases rs <;> (rw [traceE]; simp)
def rsAt (rs : List Rs) (k : Nat) : Rs := if k < rs.length then rs.getD k Rs.nil else ⟨0, false, k, false, 0, 0⟩
def rsX (rs : List Rs) (n : Nat) : List Rs := (List.range n).map (rsAt rs)
theorem rsX_len (rs : List Rs) (n : Nat) : (rsX rs n).length = n := by simp [rsX]
theorem rsX_more (rs : List Rs) (n : Nat) : rsX rs (n + 1) = rsX rs n ++ [rsAt rs n] := by simp [rsX, List.range_succ]
theorem rsX_wf {rs : List Rs} (h : ∀ r ∈ rs, r.wf) {n : Nat} (hn : n <= 256) : ∀ r ∈ rsX rs n, r.wf := by
 intro r hr
 obtain ⟨k, hk, rfl⟩ := List.mem_map.1 hr
 have hk := List.mem_range.1 hk
 unfold rsAt
 split
 ·rename_i g
  rw [List.getD_eq_getElem?_getD, List.getElem?_eq_getElem g]
  exact h _ (List.getElem_mem _)
 ·exact ⟨by show (0 : Int) <= k; omega, by show (k : Int) <= _; omega⟩
section
variable {B n1 n2 nl : Nat} {ce ct : List Value} {vr vw : Value} {rs : List Rs} {wt : List Ac} {w w' : World} {F F' : Ft} {last : Ac}
theorem Rb.put23 (h : Rb B n1 n2 nl ce ct vr vw rs wt w F last) (a : Ac) : Rb B n1 n2 nl ce ct vr vw rs wt (w.setCells nl 0 (acC a)).drew F a := (h.put a).below (below_drG (Below.refl _ _))
theorem Chg.drewG {S : Nat -> Prop} (h : Chg w w' S) : Chg w w'.drew S := ⟨h.os, h.tape, h.output, h.size, h.block⟩
end
theorem setCell_drew23 (w : World) (a : Addr) (v : Value) : w.drew.setCell a v = (w.setCell a v).drew := rfl
set_option maxHeartbeats 1000000 in
theorem last23 (nl B n1 n2 : Nat) (CE ct : List Value) (vr vw : Value) (ys : List Rs) (T : List Ac) (last : Ac) (ak apc am ao aq av an : Int) : ∀ A : World, ∃ X9, Hid ((((((((A.setCell ⟨nl, 0, none⟩ (.int .i64 ak)).setCell ⟨nl, 1, none⟩ (.int .i64 apc)).setCell ⟨nl, 2, none⟩ (.int .i64 am)).setCell ⟨nl, 3, none⟩ (.int .i64 ao)).setCell ⟨nl, 4, none⟩ (.int .u64 aq)).setCell ⟨nl, 5, none⟩ (.int .u64 av)).setCell ⟨nl, 6, none⟩ (.int .u64 an)).drew = X9) /\ Hid (((((((A.drew.setCell ⟨nl, 0, none⟩ (.int .i64 ak)).setCell ⟨nl, 1, none⟩ (.int .i64 apc)).setCell ⟨nl, 2, none⟩ (.int .i64 am)).setCell ⟨nl, 3, none⟩ (.int .i64 ao)).setCell ⟨nl, 4, none⟩ (.int .u64 aq)).setCell ⟨nl, 5, none⟩ (.int .u64 av)).setCell ⟨nl, 6, none⟩ (.int .u64 an) = X9) /\ Hid (Chg A X9 (fun k => k = nl)) /\ Hid (∀ F, Rb B n1 n2 nl CE ct vr vw ys T A F last -> Rb B n1 n2 nl CE ct vr vw ys T X9 F ⟨ak, apc, am, ao, aq, av, an⟩) := fun A => ⟨_, rfl, (by show _ = _; simp only [setCell_drew23]), (Chg.sets A nl 0 (acC ⟨ak, apc, am, ao, aq, av, an⟩)).drewG, fun F h => h.put23 ⟨ak, apc, am, ao, aq, av, an⟩⟩
theorem Lz.of {w0 w : World} {b : Nat} {F : Ft} {k : Wk} (h : Lz w0 w b F k) {x E : Int} {T : Ta} (HQ : Hid ((if isH x = true then (ofL x k.td, (0 : Int)) else (Ta.nil, 2)) = (T, E))) : ∃ tb, w.cell? ⟨b, 1, none⟩ = some (.pointer (some ⟨tb, 0, none⟩)) /\ Calls Tryz.prog 6 #[.pointer (some ⟨tb, 0, none⟩), .int .i64 x] w fun e w' => e = .returned (.tuple #[taV T, .int .i64 E]) /\ Below w.heap.size w w' := by
 obtain ⟨B, -, h8⟩ := h.ex
 obtain ⟨tb, c1, hof⟩ := h8.stat
 exact ⟨tb, c1, hof x E T HQ⟩
theorem ta_ad {a : Ta} (h : a.Ok) : a.add ⟨0, 1, 0, 0, 0⟩ = ⟨a.r, ad a.m 1, a.s, a.c, a.u⟩ := by
 unfold Ta.add
 simp only [ad_zero h.r, ad_zero h.s, ad_zero h.c, ad_zero h.u]
theorem ta_ran {a : Ta} (h : a.Ok) (n c v : Int) : a.add ⟨1, 0, n, c, v⟩ = ⟨ad a.r 1, a.m, ad a.s n, ad a.c c, ad a.u v⟩ := by
 unfold Ta.add
 simp only [ad_zero h.m]
theorem ad_wrap (a b : Int) : IntKind.u64.wrap (a + b) = ad a b := by rw [IntKind.wrap_u64]; rfl
theorem hook_mod (x : Int) : ∃ h : Int, Int.tmod (Int.tmod x 4 + 4) 4 = h /\ 0 <= h /\ h <= 3 /\ -4 < Int.tmod x 4 /\ Int.tmod x 4 < 4 := by
 have h1 : -4 < Int.tmod x 4 := by
  have := Int.lt_tmod_of_pos x (show (0 : Int) < 4 by decide)
  omega
 have h2 : Int.tmod x 4 < 4 := Int.tmod_lt_of_pos x (by decide)
 refine ⟨_, rfl, ?_, ?_, h1, h2⟩
 ·exact Int.tmod_nonneg _ (by omega)
 ·have := Int.tmod_lt_of_pos (Int.tmod x 4 + 4) (show (0 : Int) < 4 by decide); omega
def headR : Code -> Nat
 | .region i _ _ => i
 | .seq a _ => headR a
 | .block _ a => headR a
 | .scope a => headR a
 | _ => 100000
def loopAt (k : Nat) : Code -> Option Code
 | .loop c => if headR c = k then some c else loopAt k c
 | .seq a b => match loopAt k a with
  | some x => some x
  | none => loopAt k b
 | .block _ a => loopAt k a
 | .scope a => loopAt k a
 | .cond _ a b => match loopAt k a with
  | some x => some x
  | none => loopAt k b
 | _ => none
noncomputable def bodyR : Code := ((Tryz.f3.body.bind (loopAt 39)).getD .skip)
def RunGoal (w wr : World) (B b j n1 n2 nl ry gw yc gc n c : Nat) (CE : List Value) (tr tm ts tc tu : Int) (ys : List Rs) (T : List Ac) (q : Rq) (mk : Bool) : Prop := ∀ (c0 c1 c2 c5 c6 c7 c8 c9 c10 c11 c12 c14 c16 c17 c19 c23 c24 c25 c26 c27 c28 c29 c30 c31 c32 c33 c34 c35 c36 c37 c38 c39 c40 c41 c42 c43 c44 c45 c46 c47 c48 c49 c50 c51 c52 c53 c54 c55 c56 c57 c58 c59 c60 c61 c62 c63 c64 c65 c66 c67 c68 c69 c70 c71 c72 c73 c74 c75 c76 c77 c78 c79 c80 c81 c82 c83 c84 c85 c86 c87 c88 c89 c90 c91 c92 c93 c94 c95 c96 c97 c98 c99 c100 c101 c102 c103 c104 c105 c106 c107 c108 c109 c110 c111 c112 c113 c114 c115 c116 c117 c118 c119 c120 c121 c122 c123 c124 c125 c126 c127 c128 c129 c130 c131 c132 c133 c134 c135 c136 c137 c138 c139 c140 c141 c142 c143 c144 c145 c146 c147 c148 c149 c150 c151 c152 c153 c154 c155 c156 c157 c158 c159 c160 c161 c162 c163 c164 c165 c166 c167 c168 c169 c170 c171 c172 c173 c174 c175 c176 c177 c178 c179 c180 c181 c182 c183 c184 c185 c186 c187 c188 c189 c190 c191 c192 c193 c194 c195 c196 c197 c198 c199 c200 c201 c202 c203 c204 c205 c206 c207 c208 c209 c210 c211 c212 c213 c214 c215 c216 c217 c218 c219 c220 c221 c222 c223 c224 c225 c226 c227 c228 c229 c230 c231 c232 c233 c234 c235 c236 c237 c238 c239 c240 c241 c242 c243 c244 c245 c246 c247 c248 c249 c250 c251 c252 c253 c254 c255 c256 c257 c258 c259 c260 c261 c262 c263 c264 c265 c266 c267 c268 c269 c270 c271 c272 c273 c274 c275 c276 c277 c278 c279 c280 c281 c282 c283 c284 c285 c286 c287 c288 c289 c290 c291 c292 c293 c294 c295 c296 c297 c298 c299 c300 c301 c302 c303 c304 c305 c306 c307 c308 c309 c310 c311 c312 c313 c314 c315 c316 c317 c318 c319 c320 : Value), Code.wp Tryz.prog bodyR (Exit.then (fun a' w' => (∃ u2 u20 u21 u23 u24 u25 u26 u27 u28 u189 u190 u191 u192 u193 u194 u195 u196 u197 u198 u199 u200 u201 u202 u203 u204 u205 u206 u207 u208 u209 u210 u211 u212 u213 u214 u215 u216 u217 u218 u219 u220 u221 u222 u223 u224 u225 u226 u227 u228 u229 u230 u231 u232 u233 u234 u235 u236 u237 u238 u239 u240 u241 u242 u243 u244 u245 u246 u247 u248 u249 u250 u251 u252 u253 u254 u255 u256 u257 u258 u259 u260 u261 u262 u263 u264 u265 u266 u267 u268 u269 u270 : Value, (∃ (n c : Nat) (last : Ac) (F : Ft) (kk : Wk), u20 = .int .i64 c /\ u21 = .int .i64 n /\ n <= 256 /\ Hid (Lz w w' b F kk /\ Rb B n1 n2 nl CE (taC ⟨tr, tm, ts, tc, tu⟩) (.slice (some ⟨ry, 0, none⟩) ys.length yc) (.slice (some ⟨gw, 0, none⟩) T.length gc) ys T w' F last /\ Wy q n c last kk)) /\ a' = ⟨#[c0, c1, u2, .pointer (some ⟨b, 0, none⟩), .int .i64 j, c5, c6, c7, c8, c9, c10, c11, c12, .bool mk, c14, .slice (some ⟨ry, 0, none⟩) ys.length yc, c16, c17, .slice (some ⟨gw, 0, none⟩) T.length gc, c19, u20, u21, .pointer (some ⟨nl, 0, none⟩), u23, u24, u25, u26, u27, u28, c29, c30, c31, c32, c33, c34, c35, c36, c37, c38, c39, c40, c41, c42, c43, c44, c45, c46, c47, c48, c49, c50, c51, c52, c53, c54, c55, c56, c57, c58, c59, c60, c61, c62, c63, c64, c65, c66, c67, c68, c69, c70, c71, c72, c73, c74, c75, c76, c77, c78, c79, c80, c81, c82, c83, c84, c85, c86, c87, c88, c89, c90, c91, c92, c93, c94, c95, c96, c97, c98, c99, c100, c101, c102, c103, c104, c105, c106, c107, c108, c109, c110, c111, c112, c113, c114, c115, c116, c117, c118, c119, c120, c121, c122, c123, c124, c125, c126, c127, c128, c129, c130, c131, c132, c133, c134, c135, c136, c137, c138, c139, c140, c141, c142, c143, c144, c145, c146, c147, c148, c149, c150, c151, c152, c153, c154, c155, c156, c157, c158, c159, c160, c161, c162, c163, c164, c165, c166, c167, c168, c169, c170, c171, c172, c173, c174, c175, c176, c177, c178, c179, c180, c181, c182, c183, c184, c185, c186, c187, c188, u189, u190, u191, u192, u193, u194, u195, u196, u197, u198, u199, u200, u201, u202, u203, u204, u205, u206, u207, u208, u209, u210, u211, u212, u213, u214, u215, u216, u217, u218, u219, u220, u221, u222, u223, u224, u225, u226, u227, u228, u229, u230, u231, u232, u233, u234, u235, u236, u237, u238, u239, u240, u241, u242, u243, u244, u245, u246, u247, u248, u249, u250, u251, u252, u253, u254, u255, u256, u257, u258, u259, u260, u261, u262, u263, u264, u265, u266, u267, u268, u269, u270, c271, c272, c273, c274, c275, c276, c277, c278, c279, c280, c281, c282, c283, c284, c285, c286, c287, c288, c289, c290, c291, c292, c293, c294, c295, c296, c297, c298, c299, c300, c301, c302, c303, c304, c305, c306, c307, c308, c309, c310, c311, c312, c313, c314, c315, c316, c317, c318, c319, c320], []⟩) /\ 300 - (intOf (a'.tmps.getD 21 undef)).toNat < 300 - (intOf ((#[c0, c1, c2, .pointer (some ⟨b, 0, none⟩), .int .i64 j, c5, c6, c7, c8, c9, c10, c11, c12, .bool mk, c14, .slice (some ⟨ry, 0, none⟩) ys.length yc, c16, c17, .slice (some ⟨gw, 0, none⟩) T.length gc, c19, .int .i64 c, .int .i64 n, .pointer (some ⟨nl, 0, none⟩), c23, c24, c25, c26, c27, c28, c29, c30, c31, c32, c33, c34, c35, c36, c37, c38, c39, c40, c41, c42, c43, c44, c45, c46, c47, c48, c49, c50, c51, c52, c53, c54, c55, c56, c57, c58, c59, c60, c61, c62, c63, c64, c65, c66, c67, c68, c69, c70, c71, c72, c73, c74, c75, c76, c77, c78, c79, c80, c81, c82, c83, c84, c85, c86, c87, c88, c89, c90, c91, c92, c93, c94, c95, c96, c97, c98, c99, c100, c101, c102, c103, c104, c105, c106, c107, c108, c109, c110, c111, c112, c113, c114, c115, c116, c117, c118, c119, c120, c121, c122, c123, c124, c125, c126, c127, c128, c129, c130, c131, c132, c133, c134, c135, c136, c137, c138, c139, c140, c141, c142, c143, c144, c145, c146, c147, c148, c149, c150, c151, c152, c153, c154, c155, c156, c157, c158, c159, c160, c161, c162, c163, c164, c165, c166, c167, c168, c169, c170, c171, c172, c173, c174, c175, c176, c177, c178, c179, c180, c181, c182, c183, c184, c185, c186, c187, c188, c189, c190, c191, c192, c193, c194, c195, c196, c197, c198, c199, c200, c201, c202, c203, c204, c205, c206, c207, c208, c209, c210, c211, c212, c213, c214, c215, c216, c217, c218, c219, c220, c221, c222, c223, c224, c225, c226, c227, c228, c229, c230, c231, c232, c233, c234, c235, c236, c237, c238, c239, c240, c241, c242, c243, c244, c245, c246, c247, c248, c249, c250, c251, c252, c253, c254, c255, c256, c257, c258, c259, c260, c261, c262, c263, c264, c265, c266, c267, c268, c269, c270, c271, c272, c273, c274, c275, c276, c277, c278, c279, c280, c281, c282, c283, c284, c285, c286, c287, c288, c289, c290, c291, c292, c293, c294, c295, c296, c297, c298, c299, c300, c301, c302, c303, c304, c305, c306, c307, c308, c309, c310, c311, c312, c313, c314, c315, c316, c317, c318, c319, c320] : Array Value).getD 21 undef)).toNat) (fun _ _ _ => False)) ⟨#[c0, c1, c2, .pointer (some ⟨b, 0, none⟩), .int .i64 j, c5, c6, c7, c8, c9, c10, c11, c12, .bool mk, c14, .slice (some ⟨ry, 0, none⟩) ys.length yc, c16, c17, .slice (some ⟨gw, 0, none⟩) T.length gc, c19, .int .i64 c, .int .i64 n, .pointer (some ⟨nl, 0, none⟩), c23, c24, c25, c26, c27, c28, c29, c30, c31, c32, c33, c34, c35, c36, c37, c38, c39, c40, c41, c42, c43, c44, c45, c46, c47, c48, c49, c50, c51, c52, c53, c54, c55, c56, c57, c58, c59, c60, c61, c62, c63, c64, c65, c66, c67, c68, c69, c70, c71, c72, c73, c74, c75, c76, c77, c78, c79, c80, c81, c82, c83, c84, c85, c86, c87, c88, c89, c90, c91, c92, c93, c94, c95, c96, c97, c98, c99, c100, c101, c102, c103, c104, c105, c106, c107, c108, c109, c110, c111, c112, c113, c114, c115, c116, c117, c118, c119, c120, c121, c122, c123, c124, c125, c126, c127, c128, c129, c130, c131, c132, c133, c134, c135, c136, c137, c138, c139, c140, c141, c142, c143, c144, c145, c146, c147, c148, c149, c150, c151, c152, c153, c154, c155, c156, c157, c158, c159, c160, c161, c162, c163, c164, c165, c166, c167, c168, c169, c170, c171, c172, c173, c174, c175, c176, c177, c178, c179, c180, c181, c182, c183, c184, c185, c186, c187, c188, c189, c190, c191, c192, c193, c194, c195, c196, c197, c198, c199, c200, c201, c202, c203, c204, c205, c206, c207, c208, c209, c210, c211, c212, c213, c214, c215, c216, c217, c218, c219, c220, c221, c222, c223, c224, c225, c226, c227, c228, c229, c230, c231, c232, c233, c234, c235, c236, c237, c238, c239, c240, c241, c242, c243, c244, c245, c246, c247, c248, c249, c250, c251, c252, c253, c254, c255, c256, c257, c258, c259, c260, c261, c262, c263, c264, c265, c266, c267, c268, c269, c270, c271, c272, c273, c274, c275, c276, c277, c278, c279, c280, c281, c282, c283, c284, c285, c286, c287, c288, c289, c290, c291, c292, c293, c294, c295, c296, c297, c298, c299, c300, c301, c302, c303, c304, c305, c306, c307, c308, c309, c310, c311, c312, c313, c314, c315, c316, c317, c318, c319, c320], []⟩ wr
theorem run_up {P : Program} {c : Code} {I : Act -> World -> Prop} {Q : Exit -> Act -> World -> Prop} {a : Act} {w : World} (h : c.wp P (Exit.then I (fun _ _ _ => False)) a w) : c.wp P (Exit.then I Q) a w :=
 wp_mono h (fun e a w hh => by cases e <;> first | exact hh | exact False.elim hh)
set_option maxHeartbeats 400000000 in
theorem runC1 {w wr : World} {B b j n1 n2 nl ry gw yc gc n c : Nat} {CE : List Value} {tr tm ts tc tu : Int} {ys : List Rs} {T : List Ac} {q : Rq} {F7 : Ft} {last a : Ac} {kk k4 : Wk} (HLk : Hid (Lz w wr b F7 kk)) (HRk : Hid (Rb B n1 n2 nl CE (taC ⟨tr, tm, ts, tc, tu⟩) (.slice (some ⟨ry, 0, none⟩) ys.length yc) (.slice (some ⟨gw, 0, none⟩) T.length gc) ys T wr F7 last)) (h2 : kk.md = 2) (HQV : Hid (q.ve = (j : Int) + 5 /\ q.pg = (j : Int) /\ q.want = T /\ q.rs = ys /\ True)) (HYL : Hid (ys.length = 256)) (HYW : Hid (∀ r ∈ ys, r.wf)) (HNLW : Hid (w.heap.size <= nl)) (hjs : j <= 1000) (hn : n <= 256) (hst : WyStep q n c kk a k4) (a2 : a.k = 2) : RunGoal w wr B b j n1 n2 nl ry gw yc gc n c CE tr tm ts tc tu ys T q true := by
 unfold RunGoal
 intro c0 c1 c2 c5 c6 c7 c8 c9 c10 c11 c12 c14 c16 c17 c19 c23 c24 c25 c26 c27 c28 c29 c30 c31 c32 c33 c34 c35 c36 c37 c38 c39 c40 c41 c42 c43 c44 c45 c46 c47 c48 c49 c50 c51 c52 c53 c54 c55 c56 c57 c58 c59 c60 c61 c62 c63 c64 c65 c66 c67 c68 c69 c70 c71 c72 c73 c74 c75 c76 c77 c78 c79 c80 c81 c82 c83 c84 c85 c86 c87 c88 c89 c90 c91 c92 c93 c94 c95 c96 c97 c98 c99 c100 c101 c102 c103 c104 c105 c106 c107 c108 c109 c110 c111 c112 c113 c114 c115 c116 c117 c118 c119 c120 c121 c122 c123 c124 c125 c126 c127 c128 c129 c130 c131 c132 c133 c134 c135 c136 c137 c138 c139 c140 c141 c142 c143 c144 c145 c146 c147 c148 c149 c150 c151 c152 c153 c154 c155 c156 c157 c158 c159 c160 c161 c162 c163 c164 c165 c166 c167 c168 c169 c170 c171 c172 c173 c174 c175 c176 c177 c178 c179 c180 c181 c182 c183 c184 c185 c186 c187 c188 c189 c190 c191 c192 c193 c194 c195 c196 c197 c198 c199 c200 c201 c202 c203 c204 c205 c206 c207 c208 c209 c210 c211 c212 c213 c214 c215 c216 c217 c218 c219 c220 c221 c222 c223 c224 c225 c226 c227 c228 c229 c230 c231 c232 c233 c234 c235 c236 c237 c238 c239 c240 c241 c242 c243 c244 c245 c246 c247 c248 c249 c250 c251 c252 c253 c254 c255 c256 c257 c258 c259 c260 c261 c262 c263 c264 c265 c266 c267 c268 c269 c270 c271 c272 c273 c274 c275 c276 c277 c278 c279 c280 c281 c282 c283 c284 c285 c286 c287 c288 c289 c290 c291 c292 c293 c294 c295 c296 c297 c298 c299 c300 c301 c302 c303 c304 c305 c306 c307 c308 c309 c310 c311 c312 c313 c314 c315 c316 c317 c318 c319 c320
 have HMD : Hid (((kk.md : Nat) : Int) = 2) := by show _ = _; rw [h2]; rfl
 have HQS := keepG hst.st
 have HVE : Hid (kk.ve = (j : Int) + 5 /\ kk.pg = (j : Int)) := ⟨hst.ve.trans HQV.out.1, hst.pg.trans HQV.out.2.1⟩
 have hnb : (n : Int) <= 255 := by have := hst.nb; omega
 have hn256 : (n : Int) <= 256 := by omega
 have hcb : (c : Int) <= 255 := by have := hst.cb; have := hst.nb; omega
 have hj5 : (((j : Int) + 5) != ((j : Int) + 5)) = false := by simp
 have hj0 : ((j : Int) != j) = false := by simp
 have hjw5 : IntKind.i64.wrap ((j : Int) + 5) = (j : Int) + 5 := by rw [IntKind.wrap_i64]; omega
 have K5 : Hid True := trivial
 have K6 : Hid True := trivial
 have K7 : Hid True := trivial
 have HN255 := keepG hst.nb
 obtain ⟨ak, apc, am, ao, aq, av, an⟩ := a
 have hz0' : (ak != ak) = false := by simp
 have hz1' : (apc != apc) = false := by simp
 have hz2' : (am != am) = false := by simp
 have hz3' : (ao != ao) = false := by simp
 have hz4' : (aq != aq) = false := by simp
 have hz5' : (av != av) = false := by simp
 have hz6' : (an != an) = false := by simp
 have HON := keepG hst.on
 have HCN := keepG hst.cb
 have HMODE2 := keepG h2
 clear hst h2
 obtain rfl : ak = 2 := a2
 obtain ⟨-, hm3, hO4, hs4, hans⟩ := HON.out.resolve_left (fun g => g.1 rfl)
 have hcl : c < ys.length := by have h1 := HCN.out; have h2 := HN255.out; have h3 := HYL.out; omega
 obtain ⟨⟨rE, rf, rv, ro', rk, ru⟩, HRr⟩ : ∃ r, Hid (ys.getD c Rs.nil = r) := ⟨_, rfl⟩
 rw [HQV.out.2.2.2.1, HRr.out] at hans
 have hrw : (⟨rE, rf, rv, ro', rk, ru⟩ : Rs).wf := by
  rw [<- HRr.out]
  refine HYW.out _ ?_
  rw [List.getD_eq_getElem?_getD, List.getElem?_eq_getElem hcl]
  exact List.getElem_mem _
 obtain ⟨k5, hq5, hw5⟩ := hans hcl hrw
 have HQ5 := keepG hq5
 have HW5 := keepG hw5
 have HQ4 := keepG hs4
 have HRW := keepG hrw
 have HM3 : Hid (((k4.md : Nat) : Int) = 3) := by show _ = _; rw [hm3]; rfl
 have HCLI : Hid (¬ (ys.length : Int) <= c /\ (c : Int) < ys.length) := ⟨by omega, by omega⟩
 have HCL := keepG hcl
 clear hm3 hO4 hs4 hans hcl hrw hq5 hw5 HON
 conv => arg 2; whnf
 go_wp2_with (first
  | (go_at_call 11; (have hq := K5; clear hq); go_must (refine HLk.out.mode.mono ?_); rintro e wa ⟨rfl, hba⟩; go_must (rw [HMD.out]; have HLa := keepG (HLk.out.below hba); have HRa := keepG (HRk.out.below hba); clear hba K5))
  | (go_at_call 14; go_must (refine HLa.out.runs.mono ?_); rintro e wb ⟨rfl, hbb⟩; go_must (rw [HVE.out.1, HVE.out.2]; have HLb := keepG (HLa.out.below hbb); have HRb' := keepG (HRa.out.below hbb); clear hbb))
  | (go_at_call 15; (have hq := K7; clear hq); go_must (refine (HLb.out.step HQS).mono ?_); rintro e wc ⟨rfl, Fc, hLc, hnc⟩; go_must (have HLc := keepG hLc; have HRc := keepG (HRb'.out.next hnc); dsimp only [acV, actV]; obtain ⟨A, HA, HAB, HBA⟩ : ∃ A, Hid (wc.alloc (.cells #[.int .i64 2, .int .i64 apc, .int .i64 am, .int .i64 ao, .int .u64 aq, .int .u64 av, .int .u64 an] 71) = A) /\ Hid (Bz A Fc wc.heap.size 71 (acC ⟨2, apc, am, ao, aq, av, an⟩)) /\ Hid (Below wc.heap.size wc A) := ⟨_, rfl, Bz.made HLc.out.lies _ _, below_allocG _ _⟩; obtain ⟨na', HNA⟩ : ∃ na', Hid (wc.heap.size = na') := ⟨_, rfl⟩; rw [HNA.out] at HAB; have HLA := keepG (HLc.out.below HBA.out); have HRA := keepG (HRc.out.below HBA.out); have HNEL : Hid (na' ≠ nl) := (by have h1 := HRc.out.la.1.lt; have h2 := HNA.out; show _ ≠ _; omega); have y0 := HAB.out.cell (j := 0) rfl; have y1 := HAB.out.cell (j := 1) rfl; have y2 := HAB.out.cell (j := 2) rfl; have y3 := HAB.out.cell (j := 3) rfl; have y4 := HAB.out.cell (j := 4) rfl; have y5 := HAB.out.cell (j := 5) rfl; have y6 := HAB.out.cell (j := 6) rfl; clear hLc hnc K7))
  | (rw [HA.out, HNA.out]))
 obtain ⟨X9, HX9, HX9', HC9, HR9⟩ := last23 nl B n1 n2 CE (taC ⟨tr, tm, ts, tc, tu⟩) (.slice (some ⟨ry, 0, none⟩) ys.length yc) (.slice (some ⟨gw, 0, none⟩) T.length gc) ys T last 2 apc am ao aq av an A
 have HLX := keepG (HLA.out.keeps HC9.out (fun j e1 e2 => HRA.out.la.2 (by rw [<- e1]; exact e2)) (fun j e => by have h1 := HNLW.out; have h2 : j = nl := e; omega))
 have HRX := keepG (HR9.out _ HRA.out)
 have HAX := keepG (HAB.out.chg HC9.out HNEL.out)
 have m0 := HRA.out.la.cell (j := 0) rfl
 have m1 := HRA.out.la.cell (j := 1) rfl
 have m2 := HRA.out.la.cell (j := 2) rfl
 have m3 := HRA.out.la.cell (j := 3) rfl
 have m4 := HRA.out.la.cell (j := 4) rfl
 have m5 := HRA.out.la.cell (j := 5) rfl
 have m6 := HRA.out.la.cell (j := 6) rfl
 have f0 := HRA.out.la.1.frozen 0
 have f1 := HRA.out.la.1.frozen 1
 have f2 := HRA.out.la.1.frozen 2
 have f3 := HRA.out.la.1.frozen 3
 have f4 := HRA.out.la.1.frozen 4
 have f5 := HRA.out.la.1.frozen 5
 have f6 := HRA.out.la.1.frozen 6
 refine wp_region_held_drew (S := fun w' => True) (by kernel_rfl) trivial (fun hHeld => ?_)
 refine tkGo [0, 1, 2, 3, 4, 5, 6, 7, 8, 9, 10, 11, 12, 13, 14, 15, 16] ?_
 repeat (refine tkO (v := ?_) rfl ?_ ?_; rotate_left; (intro wy hSw; (try dsimp only at hSw); go_simp; (first | done | with_reducible rfl)); try simp only [Act.put, p1q, p2q, p3q, p4q, p5q, p6q])
 refine tkEnd ?_
 refine wpAnyH_take (i := 17) (v := undef) rfl (by kernel_rfl) (by kernel_rfl) (by kernel_rfl) (fun _ _ _ h => h) (Or.inr ⟨by rfl, rfl⟩) (by assumption) ?_
 try simp only [Act.put, p1q, p2q, p3q, p4q, p5q, p6q]
 refine wpAnyH_take (i := 18) (v := undef) rfl (by kernel_rfl) (by kernel_rfl) (by kernel_rfl) (fun _ _ _ h => h) (Or.inr ⟨by rfl, rfl⟩) (by assumption) ?_
 try simp only [Act.put, p1q, p2q, p3q, p4q, p5q, p6q]
 refine wpAnyH_take (i := 19) (v := undef) rfl (by kernel_rfl) (by kernel_rfl) (by kernel_rfl) (fun _ _ _ h => h) (Or.inr ⟨by rfl, rfl⟩) (by assumption) ?_
 try simp only [Act.put, p1q, p2q, p3q, p4q, p5q, p6q]
 refine wpAnyH_take (i := 20) (v := undef) rfl (by kernel_rfl) (by kernel_rfl) (by kernel_rfl) (fun _ _ _ h => h) (Or.inr ⟨by rfl, rfl⟩) (by assumption) ?_
 try simp only [Act.put, p1q, p2q, p3q, p4q, p5q, p6q]
 refine wpAnyH_take (i := 21) (v := undef) rfl (by kernel_rfl) (by kernel_rfl) (by kernel_rfl) (fun _ _ _ h => h) (Or.inr ⟨by rfl, rfl⟩) (by assumption) ?_
 try simp only [Act.put, p1q, p2q, p3q, p4q, p5q, p6q]
 refine wpAnyH_take (i := 22) (v := undef) rfl (by kernel_rfl) (by kernel_rfl) (by kernel_rfl) (fun _ _ _ h => h) (Or.inr ⟨by rfl, rfl⟩) (by assumption) ?_
 try simp only [Act.put, p1q, p2q, p3q, p4q, p5q, p6q]
 refine wpAnyH_take (i := 23) (v := undef) rfl (by kernel_rfl) (by kernel_rfl) (by kernel_rfl) (fun _ _ _ h => h) (Or.inr ⟨by rfl, rfl⟩) (by assumption) ?_
 try simp only [Act.put, p1q, p2q, p3q, p4q, p5q, p6q]
 refine wpAnyH_take (i := 24) (v := undef) rfl (by kernel_rfl) (by kernel_rfl) (by kernel_rfl) (fun _ _ _ h => h) (Or.inr ⟨by rfl, rfl⟩) (by assumption) ?_
 try simp only [Act.put, p1q, p2q, p3q, p4q, p5q, p6q]
 refine wpAnyH_take (i := 25) (v := undef) rfl (by kernel_rfl) (by kernel_rfl) (by kernel_rfl) (fun _ _ _ h => h) (Or.inr ⟨by rfl, rfl⟩) (by assumption) ?_
 try simp only [Act.put, p1q, p2q, p3q, p4q, p5q, p6q]
 refine wpAnyH_take (i := 26) (v := undef) rfl (by kernel_rfl) (by kernel_rfl) (by kernel_rfl) (fun _ _ _ h => h) (Or.inr ⟨by rfl, rfl⟩) (by assumption) ?_
 try simp only [Act.put, p1q, p2q, p3q, p4q, p5q, p6q]
 refine wpAnyH_take (i := 27) (v := undef) rfl (by kernel_rfl) (by kernel_rfl) (by kernel_rfl) (fun _ _ _ h => h) (Or.inr ⟨by rfl, rfl⟩) (by assumption) ?_
 try simp only [Act.put, p1q, p2q, p3q, p4q, p5q, p6q]
 refine wpAnyH_take (i := 28) (v := undef) rfl (by kernel_rfl) (by kernel_rfl) (by kernel_rfl) (fun _ _ _ h => h) (Or.inr ⟨by rfl, rfl⟩) (by assumption) ?_
 try simp only [Act.put, p1q, p2q, p3q, p4q, p5q, p6q]
 refine tkGo [29, 30] ?_
 repeat (refine tkO (v := ?_) rfl ?_ ?_; rotate_left; (intro wy hSw; (try dsimp only at hSw); go_simp; (first | done | with_reducible rfl)); try simp only [Act.put, p1q, p2q, p3q, p4q, p5q, p6q])
 refine tkEnd ?_
 refine wpAnyH_done (by kernel_rfl) ?_ _
 obtain ⟨hclI, hclI2⟩ := HCLI.out
 go_wp2_with (first
  | (rw [HX9.out]; have z0 := HAX.out.cell (j := 0) rfl)
  | (rw [HX9'.out]; have z0 := HAX.out.cell (j := 0) rfl)
  | (go_at_call 15; go_must (refine (HLX.out.step HQ4).mono ?_); rintro e wd ⟨rfl, Fd, hLd, hnd⟩; go_must (have HLd := keepG hLd; have HRd := keepG (HRX.out.next hnd); dsimp only [acV, actV, Ac.nil]; obtain ⟨D, HD, HDB, hbD⟩ : ∃ D, Hid (wd.alloc (.cells #[.int .i64 0, .int .i64 0, .int .i64 0, .int .i64 0, .int .u64 0, .int .u64 0, .int .u64 0] 71) = D) /\ Hid (Hp D wd.heap.size 71 (acC Ac.nil)) /\ Below wd.heap.size wd D := ⟨_, rfl, Hp.new wd _ _, below_allocG _ _⟩; obtain ⟨D1, HD1, hbD1⟩ : ∃ D1, Hid (((((((D.setCell ⟨wd.heap.size, 0, none⟩ (.int .i64 0)).setCell ⟨wd.heap.size, 1, none⟩ (.int .i64 0)).setCell ⟨wd.heap.size, 2, none⟩ (.int .i64 0)).setCell ⟨wd.heap.size, 3, none⟩ (.int .i64 0)).setCell ⟨wd.heap.size, 4, none⟩ (.int .u64 0)).setCell ⟨wd.heap.size, 5, none⟩ (.int .u64 0)).setCell ⟨wd.heap.size, 6, none⟩ (.int .u64 0) = D1) /\ Below wd.heap.size wd D1 := ⟨_, rfl, hbD.trans (grown_to_below (grown_sets wd.heap.size (acC Ac.nil) D 0) (Nat.le_refl _) hbD.size)⟩; have HLD := keepG (HLd.out.below hbD1); have HRD := keepG (HRd.out.below hbD1); have e0 := HDB.out.cell (j := 0) rfl; have e1 := HDB.out.cell (j := 1) rfl; have e2 := HDB.out.cell (j := 2) rfl; have e3 := HDB.out.cell (j := 3) rfl; have e4 := HDB.out.cell (j := 4) rfl; have e5 := HDB.out.cell (j := 5) rfl; have e6 := HDB.out.cell (j := 6) rfl; have g0 := HDB.out.frozen 0; have g1 := HDB.out.frozen 1; have g2 := HDB.out.frozen 2; have g3 := HDB.out.frozen 3; have g4 := HDB.out.frozen 4; have g5 := HDB.out.frozen 5; have g6 := HDB.out.frozen 6; clear hLd hnd hbD hbD1))
  | (rw [HD.out])
  | (rw [HD1.out])
  | (go_at_call 11; go_must (refine HLD.out.mode.mono ?_); rintro e we ⟨rfl, hbe⟩; go_must (rw [HM3.out]; have HLe := keepG (HLD.out.below hbe); have HRe := keepG (HRD.out.below hbe); obtain ⟨s0, s1, s2, s3, s4, s5⟩ := HRe.out.ress HCL.out HRr.out; simp only at s0 s1 s2 s3 s4 s5; clear hbe))
  | (go_at_call 16; go_must (refine (HLe.out.answer ⟨rE, rf, rv, ro', rk, ru⟩ HRW.out HRW.out HQ5).mono ?_); rintro e wf ⟨rfl, Ff, hLf, hnf⟩; go_must (have HLf := keepG hLf; have HRf := keepG (HRe.out.next hnf); clear hLf hnf s0 s1 s2 s3 s4 s5)))
 go_roundw
 case rel => exact ⟨n + 1, c + 1, ⟨2, apc, am, ao, aq, av, an⟩, Ff, k5, by go_num, by go_num, by omega, HLf.out, HRf.out, HW5.out⟩
 case measure => simp [intOf]; omega
set_option maxHeartbeats 400000000 in
theorem runN0 {w wr : World} {B b j n1 n2 nl ry gw yc gc n c : Nat} {CE : List Value} {tr tm ts tc tu : Int} {ys : List Rs} {T : List Ac} {q : Rq} {F7 : Ft} {last a : Ac} {kk k4 : Wk} (HLk : Hid (Lz w wr b F7 kk)) (HRk : Hid (Rb B n1 n2 nl CE (taC ⟨tr, tm, ts, tc, tu⟩) (.slice (some ⟨ry, 0, none⟩) ys.length yc) (.slice (some ⟨gw, 0, none⟩) T.length gc) ys T wr F7 last)) (h2 : kk.md = 2) (HQV : Hid (q.ve = (j : Int) + 5 /\ q.pg = (j : Int) /\ q.want = T /\ q.rs = ys /\ True)) (HYL : Hid (ys.length = 256)) (HYW : Hid (∀ r ∈ ys, r.wf)) (HNLW : Hid (w.heap.size <= nl)) (hjs : j <= 1000) (hn : n <= 256) (hst : WyStep q n c kk a k4) (a2 : ¬ a.k = 2) (hwt : n < T.length /\ T.getD n Ac.nil = a) : RunGoal w wr B b j n1 n2 nl ry gw yc gc n c CE tr tm ts tc tu ys T q false := by
 unfold RunGoal
 intro c0 c1 c2 c5 c6 c7 c8 c9 c10 c11 c12 c14 c16 c17 c19 c23 c24 c25 c26 c27 c28 c29 c30 c31 c32 c33 c34 c35 c36 c37 c38 c39 c40 c41 c42 c43 c44 c45 c46 c47 c48 c49 c50 c51 c52 c53 c54 c55 c56 c57 c58 c59 c60 c61 c62 c63 c64 c65 c66 c67 c68 c69 c70 c71 c72 c73 c74 c75 c76 c77 c78 c79 c80 c81 c82 c83 c84 c85 c86 c87 c88 c89 c90 c91 c92 c93 c94 c95 c96 c97 c98 c99 c100 c101 c102 c103 c104 c105 c106 c107 c108 c109 c110 c111 c112 c113 c114 c115 c116 c117 c118 c119 c120 c121 c122 c123 c124 c125 c126 c127 c128 c129 c130 c131 c132 c133 c134 c135 c136 c137 c138 c139 c140 c141 c142 c143 c144 c145 c146 c147 c148 c149 c150 c151 c152 c153 c154 c155 c156 c157 c158 c159 c160 c161 c162 c163 c164 c165 c166 c167 c168 c169 c170 c171 c172 c173 c174 c175 c176 c177 c178 c179 c180 c181 c182 c183 c184 c185 c186 c187 c188 c189 c190 c191 c192 c193 c194 c195 c196 c197 c198 c199 c200 c201 c202 c203 c204 c205 c206 c207 c208 c209 c210 c211 c212 c213 c214 c215 c216 c217 c218 c219 c220 c221 c222 c223 c224 c225 c226 c227 c228 c229 c230 c231 c232 c233 c234 c235 c236 c237 c238 c239 c240 c241 c242 c243 c244 c245 c246 c247 c248 c249 c250 c251 c252 c253 c254 c255 c256 c257 c258 c259 c260 c261 c262 c263 c264 c265 c266 c267 c268 c269 c270 c271 c272 c273 c274 c275 c276 c277 c278 c279 c280 c281 c282 c283 c284 c285 c286 c287 c288 c289 c290 c291 c292 c293 c294 c295 c296 c297 c298 c299 c300 c301 c302 c303 c304 c305 c306 c307 c308 c309 c310 c311 c312 c313 c314 c315 c316 c317 c318 c319 c320
 have HMD : Hid (((kk.md : Nat) : Int) = 2) := by show _ = _; rw [h2]; rfl
 have HQS := keepG hst.st
 have HVE : Hid (kk.ve = (j : Int) + 5 /\ kk.pg = (j : Int)) := ⟨hst.ve.trans HQV.out.1, hst.pg.trans HQV.out.2.1⟩
 have hnb : (n : Int) <= 255 := by have := hst.nb; omega
 have hn256 : (n : Int) <= 256 := by omega
 have hcb : (c : Int) <= 255 := by have := hst.cb; have := hst.nb; omega
 have hj5 : (((j : Int) + 5) != ((j : Int) + 5)) = false := by simp
 have hj0 : ((j : Int) != j) = false := by simp
 have hjw5 : IntKind.i64.wrap ((j : Int) + 5) = (j : Int) + 5 := by rw [IntKind.wrap_i64]; omega
 have K5 : Hid True := trivial
 have K6 : Hid True := trivial
 have K7 : Hid True := trivial
 have HN255 := keepG hst.nb
 obtain ⟨ak, apc, am, ao, aq, av, an⟩ := a
 have hz0' : (ak != ak) = false := by simp
 have hz1' : (apc != apc) = false := by simp
 have hz2' : (am != am) = false := by simp
 have hz3' : (ao != ao) = false := by simp
 have hz4' : (aq != aq) = false := by simp
 have hz5' : (av != av) = false := by simp
 have hz6' : (an != an) = false := by simp
 have HON := keepG hst.on
 have HCN := keepG hst.cb
 have HMODE2 := keepG h2
 clear hst h2
 have a2 : ¬ ak = 2 := a2
 have a2b : (ak == 2) = false := by simpa using a2
 obtain ⟨-, hwy⟩ := HON.out.resolve_right (fun g => a2 g.1)
 have HWYN := keepG hwy
 clear hwy HON
 obtain ⟨hlt', hget⟩ := hwt
 have HLT := keepG hlt'
 have HGET := keepG hget
 have HLTI : Hid (¬ (T.length : Int) <= n /\ (n : Int) < T.length) := ⟨by omega, by omega⟩
 clear hlt' hget
 conv => arg 2; whnf
 go_wp2_with (first
  | (go_at_call 11; (have hq := K5; clear hq); go_must (refine HLk.out.mode.mono ?_); rintro e wa ⟨rfl, hba⟩; go_must (rw [HMD.out]; have HLa := keepG (HLk.out.below hba); have HRa := keepG (HRk.out.below hba); clear hba K5))
  | (go_at_call 14; go_must (refine HLa.out.runs.mono ?_); rintro e wb ⟨rfl, hbb⟩; go_must (rw [HVE.out.1, HVE.out.2]; have HLb := keepG (HLa.out.below hbb); have HRb' := keepG (HRa.out.below hbb); clear hbb))
  | (go_at_call 15; (have hq := K7; clear hq); go_must (refine (HLb.out.step HQS).mono ?_); rintro e wc ⟨rfl, Fc, hLc, hnc⟩; go_must (have HLc := keepG hLc; have HRc := keepG (HRb'.out.next hnc); dsimp only [acV, actV]; obtain ⟨A, HA, HAB, HBA⟩ : ∃ A, Hid (wc.alloc (.cells #[.int .i64 ak, .int .i64 apc, .int .i64 am, .int .i64 ao, .int .u64 aq, .int .u64 av, .int .u64 an] 71) = A) /\ Hid (Bz A Fc wc.heap.size 71 (acC ⟨ak, apc, am, ao, aq, av, an⟩)) /\ Hid (Below wc.heap.size wc A) := ⟨_, rfl, Bz.made HLc.out.lies _ _, below_allocG _ _⟩; obtain ⟨na', HNA⟩ : ∃ na', Hid (wc.heap.size = na') := ⟨_, rfl⟩; rw [HNA.out] at HAB; have HLA := keepG (HLc.out.below HBA.out); have HRA := keepG (HRc.out.below HBA.out); have HNEL : Hid (na' ≠ nl) := (by have h1 := HRc.out.la.1.lt; have h2 := HNA.out; show _ ≠ _; omega); have y0 := HAB.out.cell (j := 0) rfl; have y1 := HAB.out.cell (j := 1) rfl; have y2 := HAB.out.cell (j := 2) rfl; have y3 := HAB.out.cell (j := 3) rfl; have y4 := HAB.out.cell (j := 4) rfl; have y5 := HAB.out.cell (j := 5) rfl; have y6 := HAB.out.cell (j := 6) rfl; obtain ⟨x0, x1, x2, x3, x4, x5, x6⟩ := HRA.out.want HLT.out HGET.out; simp only at x0 x1 x2 x3 x4 x5 x6; clear hLc hnc K7))
  | (rw [HA.out, HNA.out]))
 obtain ⟨hltI', hltI2⟩ := HLTI.out
 have hltB : decide ((T.length : Int) <= n) = false := by simpa using hltI'
 have hltG : ¬ (n : Int) ≥ T.length := (by omega)
 have hltH : decide ((n : Int) ≥ T.length) = false := decide_eq_false hltG
 obtain ⟨X9, HX9, HX9', HC9, HR9⟩ := last23 nl B n1 n2 CE (taC ⟨tr, tm, ts, tc, tu⟩) (.slice (some ⟨ry, 0, none⟩) ys.length yc) (.slice (some ⟨gw, 0, none⟩) T.length gc) ys T last ak apc am ao aq av an A
 have HLX := keepG (HLA.out.keeps HC9.out (fun j e1 e2 => HRA.out.la.2 (by rw [<- e1]; exact e2)) (fun j e => by have h1 := HNLW.out; have h2 : j = nl := e; omega))
 have HRX := keepG (HR9.out _ HRA.out)
 have HAX := keepG (HAB.out.chg HC9.out HNEL.out)
 have m0 := HRA.out.la.cell (j := 0) rfl
 have m1 := HRA.out.la.cell (j := 1) rfl
 have m2 := HRA.out.la.cell (j := 2) rfl
 have m3 := HRA.out.la.cell (j := 3) rfl
 have m4 := HRA.out.la.cell (j := 4) rfl
 have m5 := HRA.out.la.cell (j := 5) rfl
 have m6 := HRA.out.la.cell (j := 6) rfl
 have f0 := HRA.out.la.1.frozen 0
 have f1 := HRA.out.la.1.frozen 1
 have f2 := HRA.out.la.1.frozen 2
 have f3 := HRA.out.la.1.frozen 3
 have f4 := HRA.out.la.1.frozen 4
 have f5 := HRA.out.la.1.frozen 5
 have f6 := HRA.out.la.1.frozen 6
 refine wp_region_held_drew (S := fun w' => w'.cell? ⟨na', 0, none⟩ = some (.int .i64 ak) /\ w'.cell? ⟨na', 1, none⟩ = some (.int .i64 apc) /\ w'.cell? ⟨na', 2, none⟩ = some (.int .i64 am) /\ w'.cell? ⟨na', 3, none⟩ = some (.int .i64 ao) /\ w'.cell? ⟨na', 4, none⟩ = some (.int .u64 aq) /\ w'.cell? ⟨na', 5, none⟩ = some (.int .u64 av) /\ w'.cell? ⟨na', 6, none⟩ = some (.int .u64 an) /\ w'.cell? ⟨gw, n * 7, none⟩ = some (.int .i64 ak) /\ w'.cell? ⟨gw, n * 7 + 1, none⟩ = some (.int .i64 apc) /\ w'.cell? ⟨gw, n * 7 + 2, none⟩ = some (.int .i64 am) /\ w'.cell? ⟨gw, n * 7 + 3, none⟩ = some (.int .i64 ao) /\ w'.cell? ⟨gw, n * 7 + 4, none⟩ = some (.int .u64 aq) /\ w'.cell? ⟨gw, n * 7 + 5, none⟩ = some (.int .u64 av) /\ w'.cell? ⟨gw, n * 7 + 6, none⟩ = some (.int .u64 an)) (by kernel_rfl) ⟨y0, y1, y2, y3, y4, y5, y6, x0, x1, x2, x3, x4, x5, x6⟩ (fun hHeld => ?_)
 refine tkGo [0, 1, 2, 3, 4, 5, 6, 7, 8, 9, 10, 11, 12, 13, 14, 15, 16, 17, 18, 19, 20, 21] ?_
 repeat (refine tkO (v := ?_) rfl ?_ ?_; rotate_left; (intro wy hSw; (try dsimp only at hSw); go_simp; (first | done | with_reducible rfl)); try simp only [Act.put, p1q, p2q, p3q, p4q, p5q, p6q])
 refine tkEnd ?_
 refine tkGo [22] ?_
 refine tkO (v := .agg #[.int .i64 ak, .int .i64 apc, .int .i64 am, .int .i64 ao, .int .u64 aq, .int .u64 av, .int .u64 an]) rfl ?_ ?_
 ·intro wy hSw
  obtain ⟨s0, s1, s2, s3, s4, s5, s6, r0, r1, r2, r3, r4, r5, r6⟩ := hSw
  go_simp
 refine tkEnd ?_
 try simp only [Act.put, p1q, p2q, p3q, p4q, p5q, p6q]
 refine tkGo [23, 24, 25] ?_
 repeat (refine tkO (v := ?_) rfl ?_ ?_; rotate_left; (intro wy hSw; (try dsimp only at hSw); go_simp; (first | done | with_reducible rfl)); try simp only [Act.put, p1q, p2q, p3q, p4q, p5q, p6q])
 refine tkEnd ?_
 refine tkGo [26] ?_
 refine tkO (v := .agg #[.int .i64 ak, .int .i64 apc, .int .i64 am, .int .i64 ao, .int .u64 aq, .int .u64 av, .int .u64 an]) rfl ?_ ?_
 ·intro wy hSw
  obtain ⟨s0, s1, s2, s3, s4, s5, s6, r0, r1, r2, r3, r4, r5, r6⟩ := hSw
  go_simp
 refine tkEnd ?_
 try simp only [Act.put, p1q, p2q, p3q, p4q, p5q, p6q]
 refine tkGo [27, 28, 29, 30] ?_
 repeat (refine tkO (v := ?_) rfl ?_ ?_; rotate_left; (intro wy hSw; (try dsimp only at hSw); go_simp; (first | done | with_reducible rfl)); try simp only [Act.put, p1q, p2q, p3q, p4q, p5q, p6q])
 refine tkEnd ?_
 refine wpAnyH_done (by kernel_rfl) ?_ _
 go_wp2_with (first
  | (rw [HX9.out]; have z0 := HAX.out.cell (j := 0) rfl)
  | (rw [HX9'.out]; have z0 := HAX.out.cell (j := 0) rfl))
 go_roundw
 case rel => exact ⟨n + 1, c, ⟨ak, apc, am, ao, aq, av, an⟩, Fc, k4, rfl, by go_num, by omega, HLX.out, HRX.out, HWYN.out⟩
 case measure => simp [intOf]; omega
end Go.Proofs.YtkondcjmhlppiaaGreat
