
/-
  Two maps of layer 15's laws. No condition.
-/
import Derived.Test.YtinoelooccmmnaaW15Kit
import Derived.Test.YtinoelooccmmnaaW14Two
namespace Go.Proofs.Ytinoelooccmmnaa
open Go.RowKit
set_option linter.unusedVariables false
set_option linter.unusedSimpArgs false
set_option maxRecDepth 100000

structure M2 (w0 w : World) (a b n cap : Nat) (κ : Bool) (k : Int) (s t : List Sr) (F G : Ft) : Prop where
  ex : ∃ B C, B ≤ w.heap.size ∧ C ≤ w.heap.size ∧ Lmo w B a n cap κ k s F ∧ Lmo w C b n cap κ k t G
  two : Two w0 w F G
  n1 : 1 ≤ n
  n4 : n ≤ 4
  c16 : cap ≤ 16
  ia : InvM κ cap s
  ib : InvM κ cap t
section
variable {w0 w w' : World} {a b n cap : Nat} {κ : Bool} {k : Int} {s t : List Sr} {F F' G : Ft}
theorem M2.swap (h : M2 w0 w a b n cap κ k s t F G) : M2 w0 w b a n cap κ k t s G F := by
  obtain ⟨B, C, h1, h2, h3, h4⟩ := h.ex
  exact ⟨⟨C, B, h2, h1, h4, h3⟩, h.two.swap, h.n1, h.n4, h.c16, h.ib, h.ia⟩
theorem M2.below (h : M2 w0 w a b n cap κ k s t F G) (hb : Below w.heap.size w w') : M2 w0 w' a b n cap κ k s t F G := by
  obtain ⟨B, C, h1, h2, h3, h4⟩ := h.ex
  exact ⟨⟨B, C, Nat.le_trans h1 hb.size, Nat.le_trans h2 hb.size, h3.below hb, h4.below hb⟩, h.two.below hb, h.n1, h.n4, h.c16, h.ia, h.ib⟩
theorem M2.drewN (h : M2 w0 w a b n cap κ k s t F G) (m : Nat) : M2 w0 (w.drewN m) a b n cap κ k s t F G := h.below ⟨rfl, rfl, rfl, Nat.le_refl _, fun _ _ => rfl⟩
theorem M2.be (h : M2 w0 w a b n cap κ k s t F G) : Below w0.heap.size w0 w := h.two.be
theorem M2.lies (h : M2 w0 w a b n cap κ k s t F G) : Lies w F := by
  obtain ⟨B, C, h1, h2, h3, h4⟩ := h.ex
  exact h3.lies
theorem M2.len (h : M2 w0 w a b n cap κ k s t F G) : s.length = n := by
  obtain ⟨B, C, h1, h2, h3, h4⟩ := h.ex
  exact h3.len
theorem M2.other (h : M2 w0 w a b n cap κ k s t F G) {q : Nat} {ty : TypeId} {cs : List Value} (hp : Hp w q ty cs) (h1 : ty ≠ 97) (h2 : ty ≠ 95) (h3 : ty ≠ 64) (h4 : ty ≠ 35) (h5 : ty ≠ 69) (h6 : ty ≠ 55) : ¬ F q := by
  obtain ⟨B, C, g1, g2, g3, g4⟩ := h.ex
  exact g3.other hp h1 h2 h3 h4 h5 h6
/-- What changes blocks that were made since, and are neither map's, leaves both. -/
theorem M2.chg (h : M2 w0 w a b n cap κ k s t F G) {S : Ft} (hc : Chg w w' S) (hF : Apt S F) (hG : Apt S G) (hS : Since w0 S) : M2 w0 w' a b n cap κ k s t F G := by
  obtain ⟨B, C, h1, h2, h3, h4⟩ := h.ex
  exact ⟨⟨B, C, Nat.le_trans h1 hc.size, Nat.le_trans h2 hc.size, h3.keeps hc hF, h4.keeps hc hG⟩, ⟨h.two.apt, h.two.sf, h.two.sg, h.two.be.trans (hc.below (fun k e => hS k e) h.two.be.size)⟩, h.n1, h.n4, h.c16, h.ia, h.ib⟩
theorem M2.step {s' : List Sr} (h : M2 w0 w a b n cap κ k s t F G) {B : Nat} (hB : B ≤ w.heap.size) (hL : Lmo w' B a n cap κ k s' F') (hn : Nx w w' F F') (hi : InvM κ cap s') : M2 w0 w' a b n cap κ k s' t F' G := by
  obtain ⟨_, C, h1, h2, h3, h4⟩ := h.ex
  exact ⟨⟨B, C, Nat.le_trans hB hn.chg.size, Nat.le_trans h2 hn.chg.size, hL, h4.keeps hn.chg h.two.apt⟩, h.two.one h4.lies hn, h.n1, h.n4, h.c16, hi, h.ib⟩
theorem M2.do {op key val : Int} {q : Rq} {s' : List Sr} (hk : 0 ≤ key ∧ key < 18446744073709551616) (HQ : Hid (doM κ cap s op key val = (q, s'))) (h : M2 w0 w a b n cap κ k s t F G) :
    Calls Try.prog 11 #[.pointer (some ⟨a, 0, none⟩), .int .i64 op, .int .u64 key, .int .u64 val] w fun e w' => e = .returned (resG q.E q.f q.v q.o q.k q.u) ∧ ∃ F', M2 w0 w' a b n cap κ k s' t F' G ∧ Nx w w' F F' := by
  obtain ⟨B, C, h1, h2, h3, h4⟩ := h.ex
  refine (h3.do_any op key val h.ia h.n1 h.n4 hk h.c16 h1 HQ).mono ?_
  rintro e w' ⟨rfl, F', g1, g2⟩
  have hi := h.ia.do op key val (by rw [h3.len]; exact atM_lt h.n1 hk.1)
  rw [HQ.out] at hi
  exact ⟨rfl, F', h.step h1 g1 g2 hi, g2⟩
theorem M2.batch {pv : Value} {is : List It} {rs : List Rq} {s' : List Sr} (h : M2 w0 w a b n cap κ k s t F G) (hs : SeesG itC 4 It.nil w pv is) (hwf : ∀ x ∈ is, It.wf x) (hlen : is.length ≤ 100000) (hap : Apt F (ftV pv)) (HR : Hid (runM κ cap s is = (rs, s'))) :
    Calls Try.prog 22 #[.pointer (some ⟨a, 0, none⟩), pv] w fun e w' => ∃ u, e = .returned u ∧ ∃ F', w'.ownsRow w.heap.size 37 6 u rs.length (flatG rqC rs) ∧ M2 w0 w' a b n cap κ k s' t F' G ∧ Nx w w' F F' := by
  obtain ⟨B, C, h1, h2, h3, h4⟩ := h.ex
  refine (h3.batch h.ia h.n1 h.n4 h.c16 h1 hs hwf hlen hap HR).mono ?_
  rintro e w' ⟨u, rfl, F', g0, g1, g2⟩
  have hi := runM_inv h.n1 is hwf h3.len h.ia
  rw [HR.out] at hi
  exact ⟨u, rfl, F', g0, h.step h1 g1 g2 hi, g2⟩
theorem M2.walk {W : List Pp} (h : M2 w0 w a b n cap κ k s t F G) (HW : Hid (walkM s = W)) :
    Calls Try.prog 15 #[.pointer (some ⟨a, 0, none⟩)] w fun e w' => ∃ u, e = .returned u ∧ w'.ownsRow w.heap.size 64 2 u W.length (flatG ppC W) ∧ Below w.heap.size w w' := by
  obtain ⟨B, C, h1, h2, h3, h4⟩ := h.ex
  exact h3.walk h.ia h.n4 h.c16 HW
theorem M2.lenM {l : Nat} (h : M2 w0 w a b n cap κ k s t F G) (HL : Hid ((walkM s).length = l)) :
    Calls Try.prog 16 #[.pointer (some ⟨a, 0, none⟩)] w fun e w' => e = .returned (.int .i64 l) ∧ w = w' := by
  obtain ⟨B, C, h1, h2, h3, h4⟩ := h.ex
  exact h3.lenM h.ia h.n4 h.c16 HL
theorem M2.walk64 (h : M2 w0 w a b n cap κ k s t F G) : (walkM s).length ≤ 64 := by
  have h1 := walkL_len (ts := s) (c := 16) (fun i hi => Nat.le_trans (h.ia i hi).len h.c16) s.length (Nat.le_refl _)
  rw [List.take_of_length_le (Nat.le_refl _)] at h1
  have := h.len
  have := h.n4
  omega
theorem M2.new {w1 w2 w3 : World} {B C : Nat} (h1 : 1 ≤ cap) (hb1 : Below w0.heap.size w0 w1) (hL : Lmo w2 B a n cap κ k (List.replicate n Sr.nil) F) (hB : B ≤ w2.heap.size) (hs : Since w1 F) (hb2 : Below w1.heap.size w1 w2) (hM : Lmo w3 C b n cap κ k (List.replicate n Sr.nil) G) (hC : C ≤ w3.heap.size) (ht : Since w2 G) (hb3 : Below w2.heap.size w2 w3) (h16 : cap ≤ 16) (hn : 1 ≤ n) (hn4 : n ≤ 4) : M2 w0 w3 a b n cap κ k (List.replicate n Sr.nil) (List.replicate n Sr.nil) F G := by
  have hz1 := hb1.size
  have hz2 := hb2.size
  have hz3 := hb3.size
  exact ⟨⟨B, C, by omega, hC, hL.below hb3, hM⟩, ⟨Apt.made hL.lies ht, fun k hk => by have := hs k hk; omega, fun k hk => by have := ht k hk; omega, (hb1.trans (hb2.mono hz1)).trans (hb3.mono (by omega))⟩, hn, hn4, h16, InvM.new h1, InvM.new h1⟩
end
theorem own_emptyT (w : World) (t : TypeId) (z : Nat) : (w.alloc (.cells #[] t)).ownsRow w.heap.size t z (.slice (some ⟨w.heap.size, 0, none⟩) 0 0) 0 [] := by
  refine ⟨by simp, .inr ⟨w.heap.size, 0, #[], rfl, Nat.le_refl _, heap_alloc_new w _, Nat.le_refl _, by simp [maxLen], by simp, by simp⟩⟩
theorem flat_oneI (T : List It) : ∀ u ∈ flatG itC T, u.oneCell' = true := by
  intro u hu
  obtain ⟨x, _, hx⟩ := List.mem_flatMap.1 hu
  simp at hx
  rcases hx with rfl | rfl | rfl | rfl <;> rfl
theorem infoIt : (Try.prog.info? 41).map (fun i => (i.zero, i.size, i.bytes)) = some (some (.agg #[.int .i64 0, .int .i64 0, .int .u64 0, .int .u64 0]), 4, 32) := by kernel_rfl
end Go.Proofs.Ytinoelooccmmnaa
