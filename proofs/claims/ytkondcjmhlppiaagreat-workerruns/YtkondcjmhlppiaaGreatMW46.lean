/-
  E11LMh
  E11Acts
  E11Ends
  E11Rows
-/
import Derived.Test.YtkondcjmhlppiaaGreatMW42
import Derived.Test.YtkondcjmhlppiaaGreatMW44
import Derived.Test.YtkondcjmhlppiaaGreatMW30
import Derived.Test.YtkondcjmhlppiaaGreatMW14
import Derived.Test.YtkondcjmhlppiaaGreatMW6
namespace Go.Proofs.YtkondcjmhlppiaaGreat
open Go.RowKit
set_option linter.unusedVariables false
set_option linter.unusedSimpArgs false
set_option maxRecDepth 100000
abbrev acV (A : Ac) : Value := actV A.k A.pc A.im A.io A.ik A.iv A.v
theorem Sees.chg {k : IntKind} {w w' : World} {v : Value} {xs : List Int} {S : Nat -> Prop} (h : Sees k w v xs) (hc : Chg w w' S) (hr : xs = [] ∨ ∀ j, v.ownBlock = some j -> ¬ S j) : Sees k w' v xs := by
 obtain ⟨a, cap, rfl, hl, hm, hn0, hw, hs⟩ := h
 refine ⟨a, cap, rfl, hl, hm, hn0, hw, fun hne => ?_⟩
 obtain ⟨b, off, rfl, hlt, hcell⟩ := hs hne
 refine ⟨b, off, rfl, Nat.lt_of_lt_of_le hlt hc.size, fun i hi => ?_⟩
 have hb : ¬ S b := by
  rcases hr with hr | hr
  ·exact absurd hr hne
  ·exact hr b rfl
 exact (hc.cellL hlt hb).trans (hcell i hi)
structure Mh (w : World) (b sb : Nat) (vm : Value) (cb co ccap : Nat) (ms : List Int) (xs : List In) (ev : Int × Int) (M : Mc) : Prop where
 ma : Ma w b sb vm (.slice (some ⟨cb, co, none⟩) xs.length ccap) ev M
 sc : Sc w sb M.ws M.cs
 maps : Sees .i64 w vm ms
 code : SeesI w (.slice (some ⟨cb, co, none⟩) xs.length ccap) xs
 ne : b ≠ sb
 mb : ms = [] ∨ (vm.ownBlock ≠ some b /\ vm.ownBlock ≠ some sb)
 cn : cb ≠ b /\ cb ≠ sb
section
variable {w w' : World} {b sb cb co ccap : Nat} {vm : Value} {ms : List Int} {xs : List In} {ev : Int × Int} {M : Mc}
theorem Mh.below (h : Mh w b sb vm cb co ccap ms xs ev M) (hb : Below w.heap.size w w') : Mh w' b sb vm cb co ccap ms xs ev M :=
 ⟨h.ma.below hb h.ma.hp.lt, h.sc.below hb h.sc.lt, h.maps.below hb (Nat.le_refl _), h.code.below hb, h.ne, h.mb, h.cn⟩
theorem Mh.step {M' : Mc} (h : Mh w b sb vm cb co ccap ms xs ev M) (hc : Chg w w' (fun k => k = b ∨ k = sb)) (hm : Ma w' b sb vm (.slice (some ⟨cb, co, none⟩) xs.length ccap) ev M') (hs : Sc w' sb M'.ws M'.cs) : Mh w' b sb vm cb co ccap ms xs ev M' :=
 ⟨hm, hs, h.maps.chg hc (h.mb.imp id fun h j hj e => by
  rcases e with e | e
  ·subst e; exact h.1 hj
  ·subst e; exact h.2 hj), h.code.chg hc (fun e => by rcases e with e | e; exact h.cn.1 e; exact h.cn.2 e), h.ne, h.mb, h.cn⟩
theorem Mh.apart {S : Nat -> Prop} (h : Mh w b sb vm cb co ccap ms xs ev M) (hc : Chg w w' S) (h1 : ¬ S b) (h2 : ¬ S sb) (h3 : ¬ S cb) (h4 : ms = [] ∨ ∀ j, vm.ownBlock = some j -> ¬ S j) : Mh w' b sb vm cb co ccap ms xs ev M :=
 ⟨h.ma.chg hc h1, h.sc.chg hc h2, h.maps.chg hc h4, h.code.chg hc h3, h.ne, h.mb, h.cn⟩
theorem mstep_all {known : List St} (hK : Known xs ms.length known) (hS : Safe xs ms.length known M) (hev : (0 <= ev.1 /\ ev.1 <= 18446744073709551615) /\ 0 <= ev.2 /\ ev.2 <= 18446744073709551615) (h : Mh w b sb vm cb co ccap ms xs ev M) (hst : M.steps <= 1000) :
  Calls Tryz.prog 23 #[.pointer (some ⟨b, 0, none⟩)] w fun e w' => e = .returned (acV (stepE ms xs ev M).1) /\ Chg w w' (fun k => k = b ∨ k = sb) /\ Mh w' b sb vm cb co ccap ms xs ev (stepE ms xs ev M).2 := by
 have hr := hK.T.right hS.pc
 have hop := right_op hr
 have hm := hK.made hS.pc hS.kn
 have ha := hK.asks hS.pc hS.kn
 have htop := hK.T.top
 have hsr := fun h0 => safe_run (ms := ms) hK hS h0 hev
 by_cases m1 : M.mode = 1
 ·have e : stepE ms xs ev M = (plainA 5 M.pc 0, M) := by unfold stepE; rw [if_pos m1]
  rw [e]
  refine (mstep_wait w h.ma m1).mono ?_
  rintro e w' ⟨rfl, hb⟩
  exact ⟨rfl, Chg.of_below hb, h.below hb⟩
 by_cases m2 : M.mode = 2
 ·have c22 : (nth xs M.pc).op = 22 := by
   rcases hS.mode with g | g | g
   ·omega
   ·omega
   ·exact g.2
  have e : stepE ms xs ev M = (plainA 6 M.pc (regV M.regs (nth xs M.pc).a), M) := by unfold stepE; rw [if_neg m1, if_pos m2]
  rw [e]
  refine (mstep_over w h.ma h.code hS.pc m2 (right_reads hr (.inr (.inr (.inr c22)))) rfl).mono ?_
  rintro e w' ⟨rfl, hb⟩
  exact ⟨rfl, Chg.of_below hb, h.below hb⟩
 have m0 : M.mode = 0 := by
  rcases hS.mode with g | g | g <;> omega
 obtain ⟨hsafe, _, _⟩ := hsr m0
 by_cases c21 : (nth xs M.pc).op = 21
 ·have hc := right_call hr c21
  obtain ⟨a1, a2⟩ := asks_callE hr hm hS.wr hS.hold ha c21
  have e : stepE ms xs ev M = callE ms (nth xs M.pc) M := by unfold stepE; rw [if_neg m1, if_neg m2, if_pos c21]
  rw [e] at hsafe ⊢
  obtain ⟨⟨op, d, a, bb, imm⟩, HI⟩ : ∃ i, Hid (nth xs M.pc = i) := ⟨_, rfl⟩
  rw [HI.out] at hc a1 a2 c21 hsafe ⊢
  simp only at hc a1 a2 c21
  unfold callE at hsafe ⊢
  simp only at hsafe ⊢
  by_cases c4 : imm <= 4
  ·rw [if_pos c4] at hsafe ⊢
   obtain ⟨b1, b2⟩ := a1 c4
   obtain ⟨ad, mcap, rfl, hl, hmm, _, _, hcell⟩ := h.maps
   obtain ⟨mb, mo, rfl, hmb, hcs⟩ := hcell (fun e => by rw [e] at b2; simp at b2; omega)
   obtain ⟨j, hj⟩ := Int.eq_ofNat_of_zero_le b1
   have hjl : j < ms.length := by omega
   rw [show (regV M.regs 1).toNat = j by omega]
   have hmn : mb ≠ b := by
    rcases h.mb with g | g
    ·subst g; simp at hjl
    ·exact fun e => g.1 (by show some mb = some b; rw [e])
   refine (mstep_call w h.ma h.code hS.pc m0 hst h.cn.1 HI c21 ⟨hc.1, by omega⟩ (ak := 2) (apc := M.pc) (am := ms.getD j 0) (ao := imm) (aq := regV M.regs 2) (av := if imm = 2 ∨ imm = 4 then regV M.regs 3 else 0) (an := 0) (Q := fun w5 => Ma w5 b sb (.slice (some ⟨mb, mo, none⟩) ms.length mcap) (.slice (some ⟨cb, co, none⟩) xs.length ccap) ev { M with steps := M.steps + 1, mode := 1 } /\ Sc w5 sb M.ws M.cs) (fun U hU hcU => ?_) h.sc.lt).mono ?_
   ·refine (mcall_map imm ⟨hc.1, c4⟩ U hU hjl (Nat.lt_of_lt_of_le hmb hcU.size) hl ((hcU.cellL hmb hmn).trans (hcs j hjl)) hj rfl rfl rfl).mono ?_
    rintro e w5 ⟨rfl, hc5, hm5⟩
    exact ⟨rfl, hc5.mono (fun _ e => .inl e), hm5, (h.sc.chg hcU (fun e => h.ne e.symm)).chg hc5 (fun e => h.ne e.symm)⟩
   ·rintro e w' ⟨rfl, hcw, w5, ⟨hm5, hs5⟩, hg⟩
    have hb := h.ma.hp.lt
    have hsl := h.sc.lt
    exact ⟨rfl, hcw, h.step hcw (hm5.grown hg (fun e => by have := Option.some.inj e; omega)) (hs5.grown hg (fun e => by have := Option.some.inj e; omega))⟩
  rw [if_neg c4] at hsafe ⊢
  by_cases c5 : imm = 5
  ·rw [if_pos c5] at hsafe ⊢
   subst c5
   have hx := a2 rfl
   have hpn : M.pc + 1 < 64 := Nat.lt_of_lt_of_le hsafe.pc htop
   refine (mstep_call w h.ma h.code hS.pc m0 hst h.cn.1 HI c21 (by decide) (ak := 1) (apc := M.pc) (am := 0) (ao := 0) (aq := 0) (av := 0) (an := upW (M.cs.getD (regV M.regs 1).toNat 0) 1) (Q := fun w5 => Ma w5 b sb vm (.slice (some ⟨cb, co, none⟩) xs.length ccap) ev { M with steps := M.steps + 1, regs := M.regs.set 0 (upW (M.cs.getD (regV M.regs 1).toNat 0) 1), pc := M.pc + 1 } /\ Sc w5 sb M.ws (M.cs.set (regV M.regs 1).toNat (upW (M.cs.getD (regV M.regs 1).toNat 0) 1))) (fun U hU hcU => ?_) h.sc.lt).mono ?_
   ·refine (mcall_mark U hU hpn (h.sc.chg hcU (fun e => h.ne e.symm)) h.ne rfl hx rfl rfl).mono ?_
    rintro e w5 ⟨rfl, hc5, hm5, hs5⟩
    exact ⟨rfl, hc5, hm5, hs5⟩
   ·rintro e w' ⟨rfl, hcw, w5, ⟨hm5, hs5⟩, hg⟩
    have hb := h.ma.hp.lt
    have hsl := h.sc.lt
    exact ⟨rfl, hcw, h.step hcw ((hm5.grown hg (fun e => by have := Option.some.inj e; omega)).same rfl rfl rfl rfl rfl) (hs5.grown hg (fun e => by have := Option.some.inj e; omega))⟩
  rw [if_neg c5] at hsafe ⊢
  obtain rfl : imm = 6 := by omega
  have hpn : M.pc + 1 < 64 := Nat.lt_of_lt_of_le hsafe.pc htop
  refine (mstep_call w h.ma h.code hS.pc m0 hst h.cn.1 HI c21 (by decide) (ak := 3) (apc := M.pc) (am := 0) (ao := 0) (aq := 0) (av := 0) (an := regV M.regs 1) (Q := fun w5 => Ma w5 b sb vm (.slice (some ⟨cb, co, none⟩) xs.length ccap) ev { M with steps := M.steps + 1, regs := M.regs.set 0 0, pc := M.pc + 1 } /\ Sc w5 sb M.ws M.cs) (fun U hU hcU => ?_) h.sc.lt).mono ?_
  ·refine (mcall_note U hU hpn rfl).mono ?_
   rintro e w5 ⟨rfl, hc5, hm5⟩
   exact ⟨rfl, hc5.mono (fun _ e => .inl e), hm5, (h.sc.chg hcU (fun e => h.ne e.symm)).chg hc5 (fun e => h.ne e.symm)⟩
  ·rintro e w' ⟨rfl, hcw, w5, ⟨hm5, hs5⟩, hg⟩
   have hb := h.ma.hp.lt
   have hsl := h.sc.lt
   exact ⟨rfl, hcw, h.step hcw ((hm5.grown hg (fun e => by have := Option.some.inj e; omega)).same rfl rfl rfl rfl rfl) (hs5.grown hg (fun e => by have := Option.some.inj e; omega))⟩
 by_cases c22 : (nth xs M.pc).op = 22
 ·have e : stepE ms xs ev M = (plainA 4 M.pc (regV M.regs (nth xs M.pc).a), { M with steps := M.steps + 1, mode := 2 }) := by unfold stepE; rw [if_neg m1, if_neg m2, if_neg c21, if_pos c22]
  have har := right_reads hr (.inr (.inr (.inr c22)))
  rw [e]
  obtain ⟨⟨op, d, a, bb, imm⟩, HI⟩ : ∃ i, Hid (nth xs M.pc = i) := ⟨_, rfl⟩
  rw [HI.out] at c22 har ⊢
  refine (mstep_exit w h.ma h.code hS.pc m0 hst h.cn.1 HI c22 har rfl).mono ?_
  rintro e w' ⟨rfl, hcw, hm'⟩
  exact ⟨rfl, hcw.mono (fun _ e => .inl e), h.step (hcw.mono (fun _ e => .inl e)) hm' (h.sc.chg hcw (fun e => h.ne e.symm))⟩
 ·have hw := asks_word hr hS.wr hS.hold ha
  have ht : (nth xs M.pc).op = 20 -> 0 <= M.turn M.pc /\ M.turn M.pc <= 255 := fun h20 => by
   have hmem : lpAt xs M.pc ∈ loopsL xs := loopsU_mem.2 ⟨M.pc, hS.pc, h20, rfl⟩
   have h1 := hS.cnt _ hmem
   have h2 := bnd_ok hK.T.place _ hmem
   have e : (lpAt xs M.pc).t = (M.pc : Int) := rfl
   rw [e] at h1
   omega
  have e : stepE ms xs ev M = (plainA 1 M.pc 0, { M with regs := (laysE ev (nth xs M.pc) M).1, ws := (laysE ev (nth xs M.pc) M).2, turn := turnE (nth xs M.pc) M, steps := M.steps + 1, pc := (nextE (nth xs M.pc) M).toNat }) := by
   unfold stepE
   rw [if_neg m1, if_neg m2, if_neg c21, if_neg c22]
   by_cases hg : ((nth xs M.pc).leads && goesE (nth xs M.pc) M) = true
   ·have h15 : 15 <= (nth xs M.pc).op := by
     rcases goes_parts (nth xs M.pc) with g | g | g | g
     ·rw [hr] at g; cases g.1
     ·exact g.2.1
     ·omega
     ·rw [g.2.2.2.1] at hg; cases hg
    rw [if_pos hg, lays_id h15]
    unfold nextE
    rw [if_pos hg]
   ·rw [if_neg hg]
    unfold nextE
    rw [if_neg hg]
    congr 2
  rw [e] at hsafe ⊢
  have hpc := hsafe.pc
  simp only at hpc
  have hnn : 0 <= nextE (nth xs M.pc) M := by
   unfold nextE
   split
   ·rename_i hg
    obtain ⟨g1, _⟩ := Bool.and_eq_true_iff.1 hg
    rcases goes_parts (nth xs M.pc) with g | g | g | g
    ·rw [hr] at g; cases g.1
    ·omega
    ·obtain ⟨q, hq, _⟩ := hK.back hS.pc hS.kn g.2.1
     omega
    ·rw [g.2.2.2.1] at g1; cases g1
   ·omega
  obtain ⟨⟨op, d, a, bb, imm⟩, HI⟩ : ∃ i, Hid (nth xs M.pc = i) := ⟨_, rfl⟩
  rw [HI.out] at c21 c22 hr hop hw ht hpc hnn ⊢
  simp only at c21 c22 hop hw ht
  refine (mstep_ran w h.ma h.code hS.pc m0 hst h.cn.1 HI hr (by omega) h.sc h.ne hS.ws hev hw ht (p := (nextE ⟨op, d, a, bb, imm⟩ M).toNat) (by show _ = _; omega) (by omega) (R := (laysE ev ⟨op, d, a, bb, imm⟩ M).1) (ws := (laysE ev ⟨op, d, a, bb, imm⟩ M).2) rfl rfl).mono ?_
  rintro e w' ⟨rfl, hcw, hm', hs'⟩
  exact ⟨rfl, hcw, h.step hcw hm' hs'⟩
end
abbrev acC (A : Ac) : List Value := actC A.k A.pc A.im A.io A.ik A.iv A.v
def Ac.nil : Ac := ⟨0, 0, 0, 0, 0, 0, 0⟩
def flatX (xs : List Ac) : List Value := xs.flatMap acC
theorem flatX_app (l m : List Ac) : flatX l ++ flatX m = flatX (l ++ m) := by simp [flatX]
theorem flatX_at : ∀ (xs : List Ac) (k j : Nat), k < xs.length -> j < 7 -> (flatX xs)[k * 7 + j]? = (acC (xs.getD k Ac.nil))[j]?
 | [], k, j, hk, _ => by simp at hk
 | x :: xs, 0, j, _, hj => by
  have e : flatX (x :: xs) = acC x ++ flatX xs := rfl
  rw [e, List.getElem?_append_left (by simp; omega)]
  simp
 | x :: xs, k + 1, j, hk, hj => by
  have e : flatX (x :: xs) = acC x ++ flatX xs := rfl
  have hl : (acC x).length = 7 := rfl
  rw [e, List.getElem?_append_right (by rw [hl]; omega), hl, show (k + 1) * 7 + j - 7 = k * 7 + j by omega, flatX_at xs k j (by simpa using hk) hj]
  simp [List.getD]
theorem seven_new (w : World) (xs : List Value) (t : TypeId) (n : Nat) (hn : n = w.heap.size) : ∀ j u, xs[j]? = some u -> (w.alloc (.cells xs.toArray t)).cell? ((⟨n, 0, none⟩ : Addr).add j) = some u := by
 subst hn
 intro j u hj
 rw [add_none, Nat.zero_add, World.cell?_alloc_at _ _ _ _ rfl]
 exact (List.getElem?_toArray (xs := xs)).trans hj
theorem seven_one (A : Ac) : ∀ u ∈ acC A, u.oneCell' = true := by
 intro u hu
 simp at hu
 rcases hu with rfl | rfl | rfl | rfl | rfl | rfl | rfl <;> rfl
theorem Tryz.infoActE : (Tryz.prog.info? 71).map (fun i => (i.zero, i.size, i.bytes)) = some (some (actV 0 0 0 0 0 0 0), 7, 56) := by kernel_rfl
def AtA (w : World) (b off : Nat) (A : Ac) : Prop := ∀ j, j < 7 -> w.cell? ⟨b, off + j, none⟩ = (acC A)[j]?
theorem AtA.seven {w : World} {b off : Nat} {A : Ac} (h : AtA w b off A) : w.cell? ⟨b, off, none⟩ = some (.int .i64 A.k) /\ w.cell? ⟨b, off + 1, none⟩ = some (.int .i64 A.pc) /\ w.cell? ⟨b, off + 2, none⟩ = some (.int .i64 A.im) /\ w.cell? ⟨b, off + 3, none⟩ = some (.int .i64 A.io) /\ w.cell? ⟨b, off + 4, none⟩ = some (.int .u64 A.ik) /\ w.cell? ⟨b, off + 5, none⟩ = some (.int .u64 A.iv) /\ w.cell? ⟨b, off + 6, none⟩ = some (.int .u64 A.v) :=
 ⟨h 0 (by omega), h 1 (by omega), h 2 (by omega), h 3 (by omega), h 4 (by omega), h 5 (by omega), h 6 (by omega)⟩
theorem own_acts {w : World} {base : Nat} {e : TypeId} {v : Value} {xs : List Ac} (h : w.ownsRow base e 7 v xs.length (flatX xs)) {k : Nat} (hk : k < xs.length) : ∃ g cap, v = .slice (some ⟨g, 0, none⟩) xs.length cap /\ base <= g /\ g < w.heap.size /\ xs.length <= cap /\ cap <= maxLen /\ AtA w g (k * 7) (xs.getD k Ac.nil) := by
 have h0 := h
 rcases h with ⟨h1, ⟨rfl, h2⟩ | ⟨g, cap, cur, rfl, hb, hh, h3, h4, h5, h6⟩⟩
 ·omega
 ·refine ⟨g, cap, rfl, hb, (Array.getElem?_eq_some_iff.1 hh).1, h3, h4, fun j hj => ?_⟩
  rw [h0.cellAt (k * 7 + j) (by omega)]
  exact flatX_at xs k j hk hj
abbrev rsC (r : Rs) : List Value := [.int .i64 r.E, .bool r.f, .int .u64 r.v, .bool r.o, .int .u64 r.k, .int .u64 r.u]
def AtR (w : World) (b off : Nat) (r : Rs) : Prop := w.cell? ⟨b, off, none⟩ = some (.int .i64 r.E) /\ w.cell? ⟨b, off + 1, none⟩ = some (.bool r.f) /\ w.cell? ⟨b, off + 2, none⟩ = some (.int .u64 r.v) /\ w.cell? ⟨b, off + 3, none⟩ = some (.bool r.o) /\ w.cell? ⟨b, off + 4, none⟩ = some (.int .u64 r.k) /\ w.cell? ⟨b, off + 5, none⟩ = some (.int .u64 r.u)
theorem AtR.below {w w' : World} {b off B : Nat} {r : Rs} (h : AtR w b off r) (hb : Below B w w') (hB : b < B) : AtR w' b off r := by
 unfold AtR
 rw [hb.cell (p := ⟨b, off, none⟩) hB, hb.cell (p := ⟨b, off + 1, none⟩) hB, hb.cell (p := ⟨b, off + 2, none⟩) hB, hb.cell (p := ⟨b, off + 3, none⟩) hB, hb.cell (p := ⟨b, off + 4, none⟩) hB, hb.cell (p := ⟨b, off + 5, none⟩) hB]
 exact h
def Rs.wf (r : Rs) : Prop := 0 <= r.v /\ r.v <= 18446744073709551615
def SeesR (w : World) (v : Value) (xs : List Rs) : Prop :=
 ∃ a cap, v = .slice a xs.length cap /\ xs.length <= cap /\ cap <= maxLen /\ (a = none -> cap = 0) /\ (∀ r ∈ xs, r.wf) /\
  (xs ≠ [] -> ∃ b off, a = some ⟨b, off, none⟩ /\ b < w.heap.size /\ ∀ k, k < xs.length -> AtR w b (off + k * 6) (xs.getD k Rs.nil))
theorem SeesR.below {w w' : World} {v : Value} {xs : List Rs} {B : Nat} (h : SeesR w v xs) (hb : Below B w w') (hB : w.heap.size <= B) : SeesR w' v xs := by
 obtain ⟨a, cap, rfl, h1, h2, h3, hw, h4⟩ := h
 refine ⟨a, cap, rfl, h1, h2, h3, hw, fun hne => ?_⟩
 obtain ⟨b, off, rfl, hlt, hat⟩ := h4 hne
 exact ⟨b, off, rfl, Nat.lt_of_lt_of_le hlt hb.size, fun k hk => (hat k hk).below hb (Nat.lt_of_lt_of_le hlt hB)⟩
def cutR (a : Option Addr) (len cap : Nat) : Value := .slice (if cap = 1 then a else a.map (·.add 6)) (len - 1) (cap - 1)
theorem run_cutR (a : Option Addr) (len cap : Nat) (h1 : 1 <= len) (h2 : len <= cap) (w : World) :
  (Instr.slice 33 (.slice a len cap) (some (.int .i64 1)) none none).run Tryz.prog w = .ok (cutR a len cap) w := by
 have h0 : (1 : Int) <= (len : Int) := by omega
 have h3 : (len : Int) <= (cap : Int) := by omega
 have hc : Tryz.prog.cellsOf 62 = 6 := by kernel_rfl
 simp [Instr.slice, run_underlying Tryz.underlying33, Instr.sliceBounds, run_sliceBound, h0, h3, cutR, hc]
theorem SeesR.cut {w : World} {a : Option Addr} {cap : Nat} {r : Rs} {xs : List Rs} (h : SeesR w (.slice a (xs.length + 1) cap) (r :: xs)) : SeesR w (cutR a (xs.length + 1) cap) xs := by
 obtain ⟨a', cap', e, h1, h2, h3, hw, h4⟩ := h
 injection e with e1 e2 e3
 subst e1
 subst e3
 obtain ⟨b, off, rfl, hlt, hat⟩ := h4 (by simp)
 simp only [List.length_cons] at h1
 refine ⟨(if cap = 1 then some ⟨b, off, none⟩ else (some (⟨b, off, none⟩ : Addr)).map (·.add 6)), cap - 1, rfl, by omega, by omega, fun h => ?_, fun x hx => hw x (by simp [hx]), fun hne => ?_⟩
 ·split at h <;> cases h
 ·have hp : 0 < xs.length := List.length_pos_iff.2 hne
  refine ⟨b, off + 6, by rw [if_neg (by omega)]; rfl, hlt, fun k hk => ?_⟩
  have := hat (k + 1) (by simp; omega)
  rw [show off + (k + 1) * 6 = off + 6 + k * 6 by omega] at this
  exact this
def flatR (xs : List Rs) : List Value := xs.flatMap rsC
theorem flatR_app (l m : List Rs) : flatR l ++ flatR m = flatR (l ++ m) := by simp [flatR]
theorem flatR_at : ∀ (xs : List Rs) (k j : Nat), k < xs.length -> j < 6 -> (flatR xs)[k * 6 + j]? = (rsC (xs.getD k Rs.nil))[j]?
 | [], k, j, hk, _ => by simp at hk
 | x :: xs, 0, j, _, hj => by
  have e : flatR (x :: xs) = rsC x ++ flatR xs := rfl
  rw [e, List.getElem?_append_left (by simp; omega)]
  simp
 | x :: xs, k + 1, j, hk, hj => by
  have e : flatR (x :: xs) = rsC x ++ flatR xs := rfl
  have hl : (rsC x).length = 6 := rfl
  rw [e, List.getElem?_append_right (by rw [hl]; omega), hl, show (k + 1) * 6 + j - 6 = k * 6 + j by omega, flatR_at xs k j (by simpa using hk) hj]
  simp [List.getD]
theorem own_seesR {w : World} {base : Nat} {e : TypeId} {v : Value} {xs : List Rs} (h : w.ownsRow base e 6 v xs.length (flatR xs)) (hw : ∀ r ∈ xs, r.wf) : SeesR w v xs := by
 have h0 := h
 rcases h with ⟨h1, ⟨rfl, h2⟩ | ⟨g, cap, cur, rfl, hb, hh, h3, h4, h5, h6⟩⟩
 ·have : xs = [] := List.eq_nil_of_length_eq_zero h2
  subst this
  exact ⟨none, 0, rfl, by simp, by simp [maxLen], fun _ => rfl, hw, fun h => absurd rfl h⟩
 ·refine ⟨_, cap, rfl, h3, h4, fun h => (by cases h), hw, fun hne => ⟨g, 0, rfl, (Array.getElem?_eq_some_iff.1 hh).1, fun k hk => ?_⟩⟩
  have hc : ∀ j, j < 6 -> w.cell? ⟨g, 0 + k * 6 + j, none⟩ = (rsC (xs.getD k Rs.nil))[j]? := fun j hj => by
   rw [Nat.zero_add, h0.cellAt (k * 6 + j) (by omega)]
   exact flatR_at xs k j hk hj
  exact ⟨hc 0 (by omega), hc 1 (by omega), hc 2 (by omega), hc 3 (by omega), hc 4 (by omega), hc 5 (by omega)⟩
theorem Tryz.infoResE : (Tryz.prog.info? 62).map (fun i => (i.zero, i.size, i.bytes)) = some (some (resV 0 false 0 false 0 0), 6, 48) := by kernel_rfl
theorem six_one (r : Rs) : ∀ u ∈ rsC r, u.oneCell' = true := by
 intro u hu
 simp at hu
 rcases hu with rfl | rfl | rfl | rfl | rfl | rfl <;> rfl
theorem step_resE {w1 wr : World} {B : Nat} {e : TypeId} {v v' : Value} {ys : List Rs} {r : Rs} (hown' : w1.ownsRow B e 6 v' (ys.length + 1) (flatR ys ++ rsC r)) : w1.ownsRow B e 6 v' (ys ++ [r]).length (flatR (ys ++ [r])) := by
 rw [<- flatR_app]
 simpa [flatR] using hown'
end Go.Proofs.YtkondcjmhlppiaaGreat
