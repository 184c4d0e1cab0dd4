/-
  W13Open W14Open W14Two C15Sh C15LM C15LN GWin O22LA O22LB O22LC O22LS O22LN O22LE W22Kit W22Ko W22Aw W22Two W22Row W22Pp, joined.
-/
import Derived.Test.YtpbfgebecgikjaaGOpen
import Derived.Test.YtpbfgebecgikjaaB13Ref
import Derived.Test.YtpbfgebecgikjaaW14Kit
import Derived.Test.YtpbfgebecgikjaaGObj
import Derived.Test.YtpbfgebecgikjaaB13LTail
import Derived.Test.YtpbfgebecgikjaaL14LG
import Derived.Test.YtpbfgebecgikjaaC15Plain
import Derived.Test.YtpbfgebecgikjaaC15Fam
import Derived.Test.YtpbfgebecgikjaaGSees
import Derived.Test.YtpbfgebecgikjaaGRow
import Derived.Deep.AppendSrc
import Derived.Test.YtpbfgebecgikjaaO22Kit
import Derived.Test.YtpbfgebecgikjaaO22New
import Derived.Test.YtpbfgebecgikjaaP12Of
import Derived.Test.YtpbfgebecgikjaaTk
import Derived.Test.YtpbfgebecgikjaaGOpenW
import Derived.Test.YtpbfgebecgikjaaMPD
namespace Go.Proofs.Ytpbfgebecgikjaa
open Go.ChangeShapes Go.WideShapes Go.ChangeAt Go.RowKit
set_option linter.unusedVariables false
set_option maxRecDepth 100000

/-- One call. -/
structure Dc where
  op : Int
  k : Int
  v : Int
def Dc.nil : Dc := ⟨0, 0, 0⟩
abbrev dcC (d : Dc) : List Value := [.int .i64 d.op, .int .u64 d.k, .int .u64 d.v]
theorem dcC_len (d : Dc) : (dcC d).length = 3 := rfl
theorem pair_cells {H : Type} {enc : TypeId × Value → H} {W : World} {base fuel : Nat} {sp : Nat → Bool} {held : Bool} {cs : List Value} {x : DataW H × List MemPlace}
    (h : DataW.trod enc Try.prog W base sp held fuel 80 cs = some x) : ∃ p : Pp, cs = ppC p ∧ p.wf := by
  obtain ⟨xs, n, rfl, hx, hl, hlen, hf⟩ := DataW.trod_struct Try.underlying80 h
  have l5 : cs.length = 2 := by rw [hl]; kernel_rfl
  have u1 : Try.prog.cellsOf 41 = 1 := by kernel_rfl
  match cs, l5, xs, hlen, hf with
  | [c0, c1], _, [x0, x1], _, hf =>
    have h0 : DataW.trod enc Try.prog W base sp held n 41 (([c0, c1].drop 0).take (Try.prog.cellsOf 41)) = some x0 := hf 0 _ rfl
    have h1 : DataW.trod enc Try.prog W base sp held n 41 (([c0, c1].drop 1).take (Try.prog.cellsOf 41)) = some x1 := hf 1 _ rfl
    rw [u1] at h0 h1
    obtain ⟨a, e0, y0, g0⟩ := DataW.trod_int Try.underlying41 h0
    obtain ⟨b, e1, y1, g1⟩ := DataW.trod_int Try.underlying41 h1
    simp at e0 e1
    subst e0 e1
    refine ⟨⟨a, b⟩, rfl, ?_, ?_⟩
    · have := bounds_u64 g0; unfold W64p; omega
    · have := bounds_u64 g1; unfold W64p; omega
theorem opens_Pair {H : Type} {enc : TypeId × Value → H} {W : World} {base : Nat} {v : Value} {d : DataW H} {p : List MemPlace}
    (hok : Value.okWide Try.prog W .any base 48 v) (h : DataW.Trod enc Try.prog W 0 (fun _ => true) true 48 v d p) :
    ∃ xs, SeesG ppC 2 Pp.nil W v xs ∧ (∀ x ∈ xs, x.wf) ∧ ((d.weights Try.prog 48).all (· ≤ reachBytes) = true → xs.length * 16 ≤ 140737488351232) :=
  opensG Pp.nil (R := Pp.wf) Try.underlying48 (by kernel_rfl) (by decide) ppC_len (by kernel_rfl) pair_cells hok h
end Go.Proofs.Ytpbfgebecgikjaa
namespace Go.Proofs.Ytpbfgebecgikjaa
open Go.ChangeShapes Go.WideShapes Go.ChangeAt Go.RowKit
set_option linter.unusedVariables false
set_option maxRecDepth 100000

theorem u64_cells {H : Type} {enc : TypeId × Value → H} {W : World} {base fuel : Nat} {sp : Nat → Bool} {held : Bool} {cs : List Value} {x : DataW H × List MemPlace}
    (h : DataW.trod enc Try.prog W base sp held fuel 41 cs = some x) : ∃ a : Int, cs = uC a ∧ True := by
  obtain ⟨a, e0, _, _⟩ := DataW.trod_int Try.underlying41 h
  exact ⟨a, e0, trivial⟩
theorem opens_U64 {H : Type} {enc : TypeId × Value → H} {W : World} {base : Nat} {v : Value} {d : DataW H} {p : List MemPlace}
    (hok : Value.okWide Try.prog W .any base 94 v) (h : DataW.Trod enc Try.prog W 0 (fun _ => true) true 94 v d p) :
    ∃ xs, SeesG uC 1 0 W v xs ∧ (∀ x ∈ xs, True) ∧ ((d.weights Try.prog 94).all (· ≤ reachBytes) = true → xs.length * 8 ≤ 140737488351232) :=
  opensG (0 : Int) (R := fun _ => True) Try.underlying94 (by kernel_rfl) (by decide) uC_len (by kernel_rfl) u64_cells hok h
end Go.Proofs.Ytpbfgebecgikjaa
namespace Go.Proofs.Ytpbfgebecgikjaa
open Go.RowKit
set_option linter.unusedVariables false
set_option linter.unusedSimpArgs false
set_option maxRecDepth 100000

/-- The landed book. -/
def Bo (w : World) (B b cap : Nat) (S : List Pp) (F : Ft) : Prop := ∃ v, Lb w B b cap v S ∧ F = bkS b v
section
variable {w w' : World} {B b cap : Nat} {S : List Pp} {F G : Ft}
theorem Bo.lies (h : Bo w B b cap S F) : Lies w F := by
  obtain ⟨v, h1, rfl⟩ := h
  intro k hk
  rcases hk with e | e
  · rw [e]; exact h1.hp.lt
  · exact (h1.row.lt k e).2
theorem Bo.keeps (h : Bo w B b cap S F) (hc : Chg w w' G) (ha : Apt G F) : Bo w' B b cap S F := by
  obtain ⟨v, h1, rfl⟩ := h
  exact ⟨v, h1.chg hc (fun e => ha b e (.inl rfl)) (fun k hk e => ha k e (.inr hk)), rfl⟩
theorem Bo.below (h : Bo w B b cap S F) (hb : Below w.heap.size w w') : Bo w' B b cap S F := by
  obtain ⟨v, h1, rfl⟩ := h
  exact ⟨v, h1.below hb, rfl⟩
theorem Bo.do_any (op key val : Int) (h : Bo w B b cap S F) (hl : S.length ≤ cap) (hc16 : cap ≤ 16) (hB : B ≤ w.heap.size) :
    Calls Try.prog 59 #[.pointer (some ⟨b, 0, none⟩), .int .i64 op, .int .u64 key, .int .u64 val] w fun e w' => e = .returned (resG (doS cap S op key val).1.E (doS cap S op key val).1.f (doS cap S op key val).1.v false 0 0) ∧ ∃ F', Bo w' B b cap (doS cap S op key val).2 F' ∧ Nx w w' F F' := by
  obtain ⟨v, h1, rfl⟩ := h
  refine (ldo_any op key val h1 hl hc16 hB).mono ?_
  rintro e w' ⟨rfl, v', g1, g2, g3⟩
  refine ⟨rfl, _, ⟨v', g1, rfl⟩, g2, fun k hk => ?_⟩
  rcases hk with e | e
  · exact .inl (.inl e)
  · rcases g3 with q | ⟨j, q, qj⟩
    · exact .inl (.inr (by rw [← q]; exact e))
    · rw [q] at e
      have := Option.some.inj e
      exact .inr (by omega)
end
/-- Two objects that were made since a world, apart from one another. -/
structure Two (w0 w : World) (F G : Ft) : Prop where
  apt : Apt F G
  sf : Since w0 F
  sg : Since w0 G
  be : Below w0.heap.size w0 w
section
variable {w0 w w' : World} {F F' G G' : Ft}
theorem Two.one (h : Two w0 w F G) (hG : Lies w G) (hn : Nx w w' F F') : Two w0 w' F' G := ⟨h.apt.next hG hn, h.sf.next h.be.size hn, h.sg, h.sf.be h.be hn⟩
theorem Two.swap (h : Two w0 w F G) : Two w0 w G F := ⟨h.apt.symm, h.sg, h.sf, h.be⟩
theorem Two.two (h : Two w0 w F G) (hF : Lies w F) (hn : Nx w w' G G') : Two w0 w' F G' := (h.swap.one hF hn).swap
theorem Two.below (h : Two w0 w F G) (hb : Below w.heap.size w w') : Two w0 w' F G := ⟨h.apt, h.sf, h.sg, h.be.trans (hb.mono h.be.size)⟩
end
/-- A block of another type is none of an LRU's. -/
theorem Lu.other {w : World} {B l cap : Nat} {S : List Pp} {R : List Int} {F : Ft} (h : Lu w B l cap S R F) {n : Nat} {t : TypeId} {cs : List Value} (hp : Hp w n t cs) (h1 : t ≠ 116) (h2 : t ≠ 114) (h3 : t ≠ 80) (h4 : t ≠ 41) : ¬ F n := by
  obtain ⟨b, v, vr, g, rfl⟩ := h
  rintro (e | (e | e) | e)
  · exact hp_type hp g.hp h1 e
  · exact hp_type hp g.bk.hp h2 e
  · exact own_type10 g.bk.row hp (fun e => h3 e.symm) e
  · exact own_type10 g.rc hp (fun e => h4 e.symm) e
theorem Bo.other {w : World} {B b cap : Nat} {S : List Pp} {F : Ft} (h : Bo w B b cap S F) {n : Nat} {t : TypeId} {cs : List Value} (hp : Hp w n t cs) (h2 : t ≠ 114) (h3 : t ≠ 80) : ¬ F n := by
  obtain ⟨v, g, rfl⟩ := h
  rintro (e | e)
  · exact hp_type hp g.hp h2 e
  · exact own_type10 g.row hp (fun e => h3 e.symm) e
/-- An LRU and a book. -/
structure Pb (w0 w : World) (l b cap : Nat) (S : List Pp) (R : List Int) (T : List Pp) : Prop where
  ex : ∃ B C F G, B ≤ w.heap.size ∧ C ≤ w.heap.size ∧ Lu w B l cap S R F ∧ Bo w C b cap T G ∧ Two w0 w F G
  c16 : cap ≤ 16
section
variable {w0 w w' : World} {l b cap : Nat} {S T : List Pp} {R : List Int}
theorem Pb.below (h : Pb w0 w l b cap S R T) (hb : Below w.heap.size w w') : Pb w0 w' l b cap S R T := by
  obtain ⟨B, C, F, G, h1, h2, h3, h4, h5⟩ := h.ex
  exact ⟨⟨B, C, F, G, Nat.le_trans h1 hb.size, Nat.le_trans h2 hb.size, h3.below hb, h4.below hb, h5.below hb⟩, h.c16⟩
theorem Pb.drewN (h : Pb w0 w l b cap S R T) (n : Nat) : Pb w0 (w.drewN n) l b cap S R T := h.below ⟨rfl, rfl, rfl, Nat.le_refl _, fun _ _ => rfl⟩
theorem Pb.be (h : Pb w0 w l b cap S R T) : Below w0.heap.size w0 w := by
  obtain ⟨B, C, F, G, h1, h2, h3, h4, h5⟩ := h.ex
  exact h5.be
theorem Pb.order (h : Pb w0 w l b cap S R T) (hi : InvA cap S R) :
    Calls Try.prog 74 #[.pointer (some ⟨l, 0, none⟩)] w fun e w' => ∃ u, e = .returned u ∧ w'.ownsRow w.heap.size 41 1 u R.length (flatG uC R) ∧ Below w.heap.size w w' := by
  obtain ⟨B, C, F, G, h1, h2, h3, h4, h5⟩ := h.ex
  exact h3.order hi h.c16
theorem Pb.pairs (h : Pb w0 w l b cap S R T) (hl : T.length ≤ cap) : Calls Try.prog 61 #[.pointer (some ⟨b, 0, none⟩)] w fun e w' => ∃ u, e = .returned u ∧ w'.ownsRow w.heap.size 80 2 u T.length (flatG ppC T) ∧ Below w.heap.size w w' := by
  obtain ⟨B, C, F, G, h1, h2, h3, h4, h5⟩ := h.ex
  obtain ⟨v, g, rfl⟩ := h4
  have := h.c16
  exact lpairs_any g (by omega)
/-- Both anew. -/
theorem Pb.new {w1 w2 w3 : World} {B n : Nat} {F : Ft} (hb1 : Below w0.heap.size w0 w1) (hL : Lu w2 B l n [] [] F) (hB : B ≤ w2.heap.size) (hs : Since w1 F) (hb2 : Below w1.heap.size w1 w2) (hp : Hp w3 w2.heap.size 114 [.int .i64 n, .slice none 0 0]) (hb3 : Below w2.heap.size w2 w3) (h16 : n ≤ 16) : Pb w0 w3 l w2.heap.size n [] [] [] := by
  have hz1 := hb1.size
  have hz2 := hb2.size
  have hz3 := hb3.size
  have hG : Since w2 (bkS w2.heap.size (.slice none 0 0)) := fun k hk => by
    rcases hk with e | e
    · omega
    · cases e
  refine ⟨⟨B, 0, F, _, by omega, by omega, hL.below hb3, ⟨_, ⟨hp, World.ownsRow_nil _ _ _ _⟩, rfl⟩, Apt.made hL.lies hG, fun k hk => by have := hs k hk; omega, fun k hk => by have := hG k hk; omega, (hb1.trans (hb2.mono hz1)).trans (hb3.mono (by omega))⟩, h16⟩
end
end Go.Proofs.Ytpbfgebecgikjaa
namespace Go.Proofs.Ytpbfgebecgikjaa
open Go.RowKit
set_option linter.unusedVariables false
set_option linter.unusedSimpArgs false
set_option maxRecDepth 100000

/-- The landed shard: the interface's value. -/
def Sh (w : World) (B : Nat) (v : Value) (κ : Bool) (cap : Nat) (s : Sr) (F : Ft) : Prop :=
  (κ = false ∧ ∃ b, v = .iface 105 (.pointer (some ⟨b, 0, none⟩)) ∧ Bo w B b cap s.1 F) ∨
  (κ = true ∧ ∃ l, v = .iface 108 (.pointer (some ⟨l, 0, none⟩)) ∧ Lu w B l cap s.1 s.2 F)
section
variable {w w' : World} {B cap : Nat} {v : Value} {κ : Bool} {s : Sr} {F G : Ft}
theorem Sh.lies (h : Sh w B v κ cap s F) : Lies w F := by
  rcases h with ⟨_, b, _, hb⟩ | ⟨_, l, _, hb⟩
  · exact hb.lies
  · exact hb.lies
theorem Sh.keeps (h : Sh w B v κ cap s F) (hc : Chg w w' G) (ha : Apt G F) : Sh w' B v κ cap s F := by
  rcases h with ⟨e, b, ev, hb⟩ | ⟨e, l, ev, hb⟩
  · exact .inl ⟨e, b, ev, hb.keeps hc ha⟩
  · exact .inr ⟨e, l, ev, hb.keeps hc ha⟩
theorem Sh.below (h : Sh w B v κ cap s F) (hb : Below w.heap.size w w') : Sh w' B v κ cap s F := h.keeps (Chg.of_below (S := fun _ => False) hb) (fun _ e => e.elim)
theorem Sh.other (h : Sh w B v κ cap s F) {n : Nat} {t : TypeId} {cs : List Value} (hp : Hp w n t cs) (h1 : t ≠ 116) (h2 : t ≠ 114) (h3 : t ≠ 80) (h4 : t ≠ 41) : ¬ F n := by
  rcases h with ⟨_, b, _, hb⟩ | ⟨_, l, _, hb⟩
  · exact hb.other hp h2 h3
  · exact hb.other hp h1 h2 h3 h4
theorem Sh.low {B' : Nat} (h : Sh w B v κ cap s F) (hB : B' ≤ B) : Sh w B' v κ cap s F := by
  rcases h with ⟨e, b, ev, u, hb, hF⟩ | ⟨e, l, ev, b, u, ur, hb, hF⟩
  · exact .inl ⟨e, b, ev, u, ⟨hb.hp, own_lowG hb.row hB⟩, hF⟩
  · exact .inr ⟨e, l, ev, b, u, ur, ⟨hb.hp, ⟨hb.bk.hp, own_lowG hb.bk.row hB⟩, own_lowG hb.rc hB⟩, hF⟩
end
/-- An empty book behind the interface. -/
theorem lplain_ok (n : Nat) (h1 : 1 ≤ n) (h2 : n ≤ 16) (w : World) : Calls Try.prog 32 #[.int .i64 n] w fun e w' => ∃ v F, e = .returned (.tuple #[v, .int .i64 0]) ∧ Sh w' w.heap.size v false n Sr.nil F ∧ Since w F ∧ Below w.heap.size w w' := by
  go_enter Try.func32, Try.ntmps32
  go_wp2_with (go_at_call 38; go_must (refine (lnew_ok n h1 h2 w).mono ?_); rintro e w1 ⟨rfl, hp1, hb1, hz1⟩; go_must (have HP1 := keepG hp1; have HZ1 := keepG hz1; clear hp1 hz1))
  go_ret2
  refine ⟨_, _, rfl, .inl ⟨rfl, w.heap.size, rfl, .slice none 0 0, ⟨HP1.out, World.ownsRow_nil _ _ _ _⟩, rfl⟩, fun k hk => ?_, hb1⟩
  rcases hk with e | e
  · omega
  · cases e
theorem lplain_no (c : Int) (hc : c < 1 ∨ 16 < c) (w : World) : Calls Try.prog 32 #[.int .i64 c] w fun e w' => e = .returned (.tuple #[.nilIface, .int .i64 2]) ∧ w = w' := by
  go_enter Try.func32, Try.ntmps32
  go_wp2_with (go_at_call 38; go_must (refine (lnew_no c hc w).mono ?_); rintro e w1 ⟨rfl, rfl⟩)
  go_ret2
  first | done | exact ⟨rfl, rfl⟩
/-- An empty LRU behind the interface. -/
theorem lbounded_ok (n : Nat) (h1 : 1 ≤ n) (h2 : n ≤ 16) (w : World) : Calls Try.prog 33 #[.int .i64 n] w fun e w' => ∃ v F, e = .returned (.tuple #[v, .int .i64 0]) ∧ Sh w' w.heap.size v true n Sr.nil F ∧ Since w F ∧ Below w.heap.size w w' := by
  go_enter Try.func33, Try.ntmps33
  go_wp2_with (go_at_call 39; go_must (refine (lunew_ok n h1 h2 w).mono ?_); rintro e w1 ⟨l, F, rfl, hL1, hs1, hb1⟩; go_must (have HL1 := keepG hL1; have HS1 := keepG hs1; clear hL1 hs1))
  go_ret2
  exact ⟨_, F, rfl, .inr ⟨rfl, l, rfl, HL1.out⟩, HS1.out, hb1⟩
theorem lbounded_no (c : Int) (hc : c < 1 ∨ 16 < c) (w : World) : Calls Try.prog 33 #[.int .i64 c] w fun e w' => e = .returned (.tuple #[.nilIface, .int .i64 2]) ∧ w = w' := by
  go_enter Try.func33, Try.ntmps33
  go_wp2_with (go_at_call 39; go_must (refine (llnew_no c hc w).mono ?_); rintro e w1 ⟨rfl, rfl⟩)
  go_ret2
  first | done | exact ⟨rfl, rfl⟩
theorem lmake_book (n : Nat) (h1 : 1 ≤ n) (h2 : n ≤ 16) (w : World) : Calls Try.prog 23 #[.agg #[.int .i64 0, .int .i64 n]] w fun e w' => ∃ v F, e = .returned (.tuple #[v, .int .i64 0]) ∧ Sh w' w.heap.size v false n Sr.nil F ∧ Since w F ∧ Below w.heap.size w w' := by
  obtain ⟨X, HX, hbX⟩ : ∃ X, Hid (w.alloc (.cells #[.int .i64 0, .int .i64 n] 74) = X) ∧ Below w.heap.size w X := ⟨_, rfl, below_allocG _ _⟩
  have hzX := hbX.size
  go_enter Try.func23, Try.ntmps23
  go_wp2_with (go_at_call 32; rw [HX.out]; go_must (refine (lplain_ok n h1 h2 X).mono ?_); rintro e w1 ⟨v, F, rfl, hL1, hs1, hb1⟩; go_must (have HL1 := keepG hL1; have HS1 := keepG hs1; clear hL1 hs1))
  go_ret2
  exact ⟨v, F, rfl, HL1.out.low hzX, fun k hk => Nat.le_trans hzX (HS1.out k hk), hbX.trans (hb1.mono hzX)⟩
theorem lmake_lru (n : Nat) (h1 : 1 ≤ n) (h2 : n ≤ 16) (w : World) : Calls Try.prog 23 #[.agg #[.int .i64 1, .int .i64 n]] w fun e w' => ∃ v F, e = .returned (.tuple #[v, .int .i64 0]) ∧ Sh w' w.heap.size v true n Sr.nil F ∧ Since w F ∧ Below w.heap.size w w' := by
  obtain ⟨X, HX, hbX⟩ : ∃ X, Hid (w.alloc (.cells #[.int .i64 1, .int .i64 n] 74) = X) ∧ Below w.heap.size w X := ⟨_, rfl, below_allocG _ _⟩
  have hzX := hbX.size
  go_enter Try.func23, Try.ntmps23
  go_wp2_with (go_at_call 33; rw [HX.out]; go_must (refine (lbounded_ok n h1 h2 X).mono ?_); rintro e w1 ⟨v, F, rfl, hL1, hs1, hb1⟩; go_must (have HL1 := keepG hL1; have HS1 := keepG hs1; clear hL1 hs1))
  go_ret2
  exact ⟨v, F, rfl, HL1.out.low hzX, fun k hk => Nat.le_trans hzX (HS1.out k hk), hbX.trans (hb1.mono hzX)⟩
theorem meth_bookDo (fuel : Nat) (a : Addr) (w : World) : (method (fuel + 1) 105 (.pointer (some a)) "Do").run Try.prog w = .ok (59, .pointer (some a)) w := by kernel_rfl
theorem meth_bookPairs (fuel : Nat) (a : Addr) (w : World) : (method (fuel + 1) 105 (.pointer (some a)) "Pairs").run Try.prog w = .ok (61, .pointer (some a)) w := by kernel_rfl
theorem meth_lruDo (fuel : Nat) (a : Addr) (w : World) : (method (fuel + 1) 108 (.pointer (some a)) "Do").run Try.prog w = .ok (72, .pointer (some a)) w := by kernel_rfl
theorem meth_parts {P : Program} {t : TypeId} {name : String} {pth : List FieldStep} {fn : Option (FuncId × Bool)} (h : (P.info? t).bind (fun i => (i.methods.find? (fun x => x.name == name)).map (fun m => (m.path.toList, m.func))) = some (pth, fn)) : ∃ i m, P.info? t = some i ∧ i.methods.find? (fun x => x.name == name) = some m ∧ m.path.toList = pth ∧ m.func = fn := by
  cases hi : P.info? t with
  | none => rw [hi] at h; cases h
  | some i =>
    rw [hi] at h
    cases hm : i.methods.find? (fun x => x.name == name) with
    | none => simp [hm] at h
    | some m =>
      simp [hm] at h
      exact ⟨i, m, rfl, hm, h.1, h.2⟩
/-- A method of the book that an LRU has. -/
theorem meth_lru {name : String} {fn : FuncId} (hq : (Try.prog.info? 108).bind (fun i => (i.methods.find? (fun x => x.name == name)).map (fun m => (m.path.toList, m.func))) = some ([⟨116, 0, true⟩], some (fn, true))) (fuel : Nat) {l : Nat} {a : Addr} {w : World} (h : w.cell? ⟨l, 0, none⟩ = some (.pointer (some a))) : (method (fuel + 1) 108 (.pointer (some ⟨l, 0, none⟩)) name).run Try.prog w = .ok (fn, .pointer (some a)) w := by
  obtain ⟨i, m, hi, hm, hpt, hf⟩ := meth_parts (P := Try.prog) (t := 108) (name := name) (pth := [⟨116, 0, true⟩]) (fn := some (fn, true)) hq
  have hfp : ∀ f : Field, f.type = 105 → f.offset = 0 → (fieldPlace ⟨l, 0, none⟩ f).run Try.prog w = .ok ⟨l, 0, none⟩ w := by
    rintro ⟨n1, t1, o1, e1, g1, p1, b1⟩ rfl rfl
    kernel_rfl
  simp [method, typeInfo, hi, hm, hpt, hf, follow, run_underlying Try.underlying116, asAddr, Place.get]
  rw [hfp _ rfl rfl]
  simp [Result.andThen, receiverAt, run_underlying Try.underlying105, Place.get, loadVar, Try.isAgg105, h]
theorem meth_lruPairs (fuel : Nat) {l : Nat} {a : Addr} {w : World} (h : w.cell? ⟨l, 0, none⟩ = some (.pointer (some a))) : (method (fuel + 1) 108 (.pointer (some ⟨l, 0, none⟩)) "Pairs").run Try.prog w = .ok (61, .pointer (some a)) w := meth_lru (by kernel_rfl) fuel h
/-- What a call through the interface comes to. -/
def Via (w : World) (v : Value) (name : String) (f : FuncId) (x : Value) : Prop := ∃ t u, v = .iface t u ∧ (∀ fuel, (method (fuel + 1) t u name).run Try.prog w = .ok (f, x) w) ∧ ∀ xs w', (callFunc f xs).run Try.prog w' = .ok (.enter f xs) w'
section
variable {w : World} {B cap : Nat} {v : Value} {κ : Bool} {s : Sr} {F : Ft}
/-- Do of a shard. -/
theorem Sh.do_any (op key val : Int) (h : Sh w B v κ cap s F) (hi : InvSh κ cap s) (hc16 : cap ≤ 16) (hB : B ≤ w.heap.size) {q : Rq} {s' : Sr} (HQ : Hid (doSh κ cap s op key val = (q, s'))) :
    ∃ f x, Via w v "Do" f x ∧ Calls Try.prog f #[x, .int .i64 op, .int .u64 key, .int .u64 val] w fun e w' => e = .returned (resG q.E q.f q.v q.o q.k q.u) ∧ ∃ F', Sh w' B v κ cap s' F' ∧ Nx w w' F F' := by
  have hln := hi.len
  rcases h with ⟨rfl, b, rfl, hb⟩ | ⟨rfl, l, rfl, hb⟩
  · refine ⟨_, _, ⟨_, _, rfl, fun fuel => meth_bookDo fuel ⟨b, 0, none⟩ w, fun _ _ => by kernel_rfl⟩, (hb.do_any op key val hln hc16 hB).mono ?_⟩
    rintro e w' ⟨rfl, F', g1, g2⟩
    have hq := HQ.out
    unfold doSh at hq
    rw [if_neg (by decide)] at hq
    injection hq with hq1 hq2
    subst hq1 hq2
    exact ⟨rfl, F', .inl ⟨rfl, b, rfl, g1⟩, g2⟩
  · have hq := HQ.out
    unfold doSh at hq
    rw [if_pos rfl] at hq
    refine ⟨_, _, ⟨_, _, rfl, fun fuel => meth_lruDo fuel ⟨l, 0, none⟩ w, fun _ _ => by kernel_rfl⟩, (hb.do_as (S' := s'.1) (R' := s'.2) hq (hi.lru rfl) hc16 hB).mono ?_⟩
    rintro e w' ⟨rfl, F', g1, g2⟩
    exact ⟨rfl, F', .inr ⟨rfl, l, rfl, g1⟩, g2⟩
theorem Sh.pairs (h : Sh w B v κ cap s F) (hi : InvSh κ cap s) (hc16 : cap ≤ 16) :
    ∃ f x, Via w v "Pairs" f x ∧ Calls Try.prog f #[x] w fun e w' => ∃ u, e = .returned u ∧ w'.ownsRow w.heap.size 80 2 u s.1.length (flatG ppC s.1) ∧ Below w.heap.size w w' := by
  have hln := hi.len
  rcases h with ⟨rfl, b, rfl, v, hb, rfl⟩ | ⟨rfl, l, rfl, hb⟩
  · exact ⟨_, _, ⟨_, _, rfl, fun fuel => meth_bookPairs fuel ⟨b, 0, none⟩ w, fun _ _ => by kernel_rfl⟩, lpairs_any hb (by omega)⟩
  · obtain ⟨d, u, g1, g2⟩ := hb.book
    exact ⟨_, _, ⟨_, _, rfl, fun fuel => meth_lruPairs fuel g1, fun _ _ => by kernel_rfl⟩, lpairs_any g2 (by omega)⟩
end
theorem lmake_ok (κ : Bool) (n : Nat) (h1 : 1 ≤ n) (h2 : n ≤ 16) (w : World) : Calls Try.prog 23 #[.agg #[.int .i64 (if κ = true then 1 else 0), .int .i64 n]] w fun e w' => ∃ v F, e = .returned (.tuple #[v, .int .i64 0]) ∧ Sh w' w.heap.size v κ n Sr.nil F ∧ Since w F ∧ Below w.heap.size w w' := by
  cases κ with
  | true => exact lmake_lru n h1 h2 w
  | false => exact lmake_book n h1 h2 w
theorem lmake_no (k c : Int) (h : (k ≠ 0 ∧ k ≠ 1) ∨ c < 1 ∨ 16 < c) (w : World) : Calls Try.prog 23 #[.agg #[.int .i64 k, .int .i64 c]] w fun e w' => e = .returned (.tuple #[.nilIface, .int .i64 2]) ∧ Below w.heap.size w w' := by
  obtain ⟨X, HX, hbX⟩ : ∃ X, Hid (w.alloc (.cells #[.int .i64 k, .int .i64 c] 74) = X) ∧ Below w.heap.size w X := ⟨_, rfl, below_allocG _ _⟩
  by_cases h0 : k = 0
  · subst h0
    have hc : c < 1 ∨ 16 < c := by rcases h with g | g; exact absurd rfl g.1; exact g
    go_enter Try.func23, Try.ntmps23
    go_wp2_with (go_at_call 32; rw [HX.out]; go_must (refine (lplain_no c hc X).mono ?_); rintro e w1 ⟨rfl, rfl⟩)
    go_ret2
    exact ⟨rfl, hbX⟩
  · by_cases h1 : k = 1
    · subst h1
      have hc : c < 1 ∨ 16 < c := by rcases h with g | g; exact absurd rfl g.2; exact g
      go_enter Try.func23, Try.ntmps23
      go_wp2_with (go_at_call 33; rw [HX.out]; go_must (refine (lbounded_no c hc X).mono ?_); rintro e w1 ⟨rfl, rfl⟩)
      go_ret2
      exact ⟨rfl, hbX⟩
    · have b0 : (k == 0) = false := by simpa using h0
      have b1 : (k == 1) = false := by simpa using h1
      clear h h0 h1
      go_enter Try.func23, Try.ntmps23
      go_wp2
      go_ret2
      exact ⟨rfl, below_allocG _ _⟩
end Go.Proofs.Ytpbfgebecgikjaa
namespace Go.Proofs.Ytpbfgebecgikjaa
open Go.RowKit
set_option linter.unusedVariables false
set_option linter.unusedSimpArgs false
set_option maxRecDepth 100000

abbrev ifC (v : Value) : List Value := [v]
theorem ifC_len (v : Value) : (ifC v).length = 1 := rfl
theorem infoIf : (Try.prog.info? 69).map (fun i => (i.zero, i.size, i.bytes)) = some (some .nilIface, 1, 16) := by kernel_rfl
def footN (m : Nat) (rv : Value) (n : Nat) (F : Nat → Ft) : Ft := fun k => k = m ∨ rv.ownBlock = some k ∨ unF n F k
section
variable {w w' : World} {B m cap : Nat} {κ : Bool} {k : Int} {rv : Value} {vs : List Value} {st : List Sr} {F : Nat → Ft}
end
theorem res_endL (P : World → Ft → Prop) (hk : ∀ {w w' : World} {F G : Ft}, P w F → Chg w w' G → Apt G F → P w' F) {w X w1 W7 : World} {F F' : Ft} {cs : List Value} (hbX : Below w.heap.size w X) (hzX : X.heap.size = w.heap.size + 1) (hF : Lies w F) (Hr : Hp w1 w.heap.size 47 cs) (hl : cs.length = 6) (hP : P w1 F') (hn : Nx X w1 F F') {E x k u : Int} {f o : Bool} {fn : Func} {tmps : Array Value} {pt : Tmp} (hW : W7 = ((((((w1.setCell ⟨w.heap.size, 0, none⟩ (.int .i64 E)).setCell ⟨w.heap.size, 1, none⟩ (.bool f)).setCell ⟨w.heap.size, 2, none⟩ (.int .u64 x)).setCell ⟨w.heap.size, 3, none⟩ (.bool o)).setCell ⟨w.heap.size, 4, none⟩ (.int .u64 k)).setCell ⟨w.heap.size, 5, none⟩ (.int .u64 u))) (hr : fn.results = #[.cell pt 47] := by rfl) (hp : tmps.getD pt undef = .pointer (some ⟨w.heap.size, 0, none⟩) := by rfl) :
    bodyPost Try.prog fn (fun e w' => e = .returned (resG E f x o k u) ∧ ∃ F', P w' F' ∧ Nx w w' F F') .ret ⟨tmps, []⟩ W7 := by
  obtain ⟨hs, hg⟩ := six_sets (E := E) (f := f) (v := x) (o := o) (k := k) (u := u) Hr hl
  have hc := Chg.of_grown (S := fun k => k = w.heap.size) hg rfl
  have hn0 := (Nx.below (F := F) hbX).trans hn
  have hnot : ¬ F' w.heap.size := fun e => by
    rcases hn.new _ e with g | g
    · have := hF _ g; omega
    · omega
  rw [hW]
  exact res_ret hr hp hs ⟨rfl, F', hk hP hc (fun k e hf => by subst e; exact hnot hf), ⟨hn0.chg.trans hc (fun k hk e => by omega), hn0.new⟩⟩
section
variable {w w' : World} {B m n cap : Nat} {κ : Bool} {k : Int} {st : List Sr} {G H : Ft}
end
end Go.Proofs.Ytpbfgebecgikjaa
namespace Go.Proofs.Ytpbfgebecgikjaa
open Go.RowKit
set_option linter.unusedVariables false
set_option linter.unusedSimpArgs false
set_option maxRecDepth 100000

abbrev defW (k c : Int) : Value := .agg #[.int .i64 k, .int .i64 c]
def kindJ (κ : Bool) : Int := if κ = true then 1 else 0
def defNoL (k c : Int) : Prop := (k ≠ 0 ∧ k ≠ 1) ∨ c < 1 ∨ 16 < c
theorem Sh.shape {w : World} {B : Nat} {v : Value} {κ : Bool} {cap : Nat} {s : Sr} {F : Ft} (h : Sh w B v κ cap s F) : ∃ t u, v = .iface t u := by
  rcases h with ⟨_, b, rfl, _⟩ | ⟨_, l, rfl, _⟩
  · exact ⟨_, _, rfl⟩
  · exact ⟨_, _, rfl⟩
theorem Sh.one {w : World} {B : Nat} {v : Value} {κ : Bool} {cap : Nat} {s : Sr} {F : Ft} (h : Sh w B v κ cap s F) : ∀ u ∈ ifC v, u.oneCell' = true := by
  rcases h with ⟨_, b, rfl, _⟩ | ⟨_, l, rfl, _⟩
  · intro u hu; simp at hu; subst hu; rfl
  · intro u hu; simp at hu; subst hu; rfl
section
variable {w0 w w2 : World} {B r cap : Nat} {κ : Bool} {k : Int} {rv v2 : Value} {ps : List Value} {st : List Sr} {F : Nat → Ft}
end
end Go.Proofs.Ytpbfgebecgikjaa
namespace Go.Proofs.Ytpbfgebecgikjaa
open Go.RowKit
set_option linter.unusedVariables false
set_option linter.unusedSimpArgs false
set_option maxRecDepth 100000

def Win (w : World) (B : Nat) (e : TypeId) (z : Nat) (v : Value) (n : Nat) (xs : List Value) : Prop :=
  xs.length = n * z ∧ ((v = .slice none 0 0 ∧ n = 0) ∨ ∃ g cap A R, v = .slice (some ⟨g, A.length, none⟩) n cap ∧ B ≤ g ∧ Hp w g e (A ++ (xs ++ R)) ∧ n ≤ cap ∧ cap ≤ maxLen ∧ (cap - n) * z ≤ R.length)
section
variable {w w' : World} {B : Nat} {e : TypeId} {z : Nat} {v : Value} {n : Nat} {xs : List Value}
theorem own_win (h : w.ownsRow B e z v n xs) : Win w B e z v n xs := by
  rcases h with ⟨h1, h2 | ⟨g, cap, cur, rfl, hb, hh, h3, h4, h5, h6⟩⟩
  · exact ⟨h1, .inl h2⟩
  · have hl : cur.toList.length = cap * z := by rw [Array.length_toList]; exact h5
    refine ⟨h1, .inr ⟨g, cap, [], cur.toList.drop (n * z), rfl, hb, ?_, h3, h4, ?_⟩⟩
    · unfold Hp
      rw [hh, ← h6, List.nil_append, List.take_append_drop]
    · rw [List.length_drop, hl, Nat.sub_mul]
      omega
theorem Win.lt (h : Win w B e z v n xs) : ∀ k, v.ownBlock = some k → B ≤ k ∧ k < w.heap.size := by
  intro k hk
  rcases h with ⟨_, ⟨rfl, _⟩ | ⟨g, cap, A, R, rfl, hb, hp, _⟩⟩
  · cases hk
  · have e1 : g = k := Option.some.inj hk
    subst e1
    exact ⟨hb, hp.lt⟩
theorem Win.hp (h : Win w B e z v n xs) {k : Nat} (hk : v.ownBlock = some k) : ∃ cs, Hp w k e cs := by
  rcases h with ⟨_, ⟨rfl, _⟩ | ⟨g, cap, A, R, rfl, hb, hp, _⟩⟩
  · cases hk
  · have e1 : g = k := Option.some.inj hk
    subst e1
    exact ⟨_, hp⟩
theorem Win.shape (h : Win w B e z v n xs) : ∃ a cap, v = .slice a n cap ∧ n ≤ cap ∧ cap ≤ maxLen := by
  rcases h with ⟨_, ⟨rfl, rfl⟩ | ⟨g, cap, A, R, rfl, hb, hp, h1, h2, _⟩⟩
  · exact ⟨_, _, rfl, Nat.le_refl _, by unfold maxLen; omega⟩
  · exact ⟨_, _, rfl, h1, h2⟩
theorem Win.chg {S : Nat → Prop} (h : Win w B e z v n xs) (hc : Chg w w' S) (hS : ∀ k, v.ownBlock = some k → ¬ S k) : Win w' B e z v n xs := by
  rcases h with ⟨h1, h2 | ⟨g, cap, A, R, rfl, hb, hp, h3⟩⟩
  · exact ⟨h1, .inl h2⟩
  · exact ⟨h1, .inr ⟨g, cap, A, R, rfl, hb, hp.chg hc (hS g rfl), h3⟩⟩
theorem Win.below (h : Win w B e z v n xs) (hb : Below w.heap.size w w') : Win w' B e z v n xs := h.chg (Chg.of_below (S := fun _ => False) hb) (fun _ _ e => e)
theorem Win.low {B' : Nat} (h : Win w B e z v n xs) (hB : B' ≤ B) : Win w B' e z v n xs := by
  rcases h with ⟨h1, h2 | ⟨g, cap, A, R, rfl, hb, hp, h3⟩⟩
  · exact ⟨h1, .inl h2⟩
  · exact ⟨h1, .inr ⟨g, cap, A, R, rfl, Nat.le_trans hB hb, hp, h3⟩⟩
theorem Win.sees {α : Type} {f : α → List Value} {l : List α} (hf : ∀ x, (f x).length = z) (d : α) (h : Win w B e z v l.length (flatG f l)) : SeesG f z d w v l := by
  rcases h with ⟨h1, ⟨rfl, h2⟩ | ⟨g, cap, A, R, rfl, hb, hp, h3, h4, h5⟩⟩
  · have : l = [] := List.eq_nil_of_length_eq_zero h2
    subst this
    exact SeesG.nil d w
  · refine ⟨_, cap, rfl, h3, h4, fun h => (by cases h), fun hne => ⟨g, A.length, rfl, hp.lt, fun k hk j hj => ?_⟩⟩
    have hlt : k * z + j < (flatG f l).length := by
      rw [h1]
      exact Nat.lt_of_lt_of_le (Nat.add_lt_add_left hj _) (by rw [← Nat.succ_mul]; exact Nat.mul_le_mul_right _ hk)
    have e1 := flatG_at hf d l hk hj
    have hj' : j < (f (l.getD k d)).length := by rw [hf]; exact hj
    rw [List.getElem?_eq_getElem hj'] at e1 ⊢
    refine hp.cell ?_
    rw [Nat.add_assoc, List.getElem?_append_right (by omega), show A.length + (k * z + j) - A.length = k * z + j by omega, List.getElem?_append_left hlt]
    exact e1
/-- The first is cut off. -/
theorem Win.tail {P : Program} {t : TypeId} {x : List Value} (ht : P.underlying t = some (.slice e)) (hs : ∀ w, (Go.sizeOf e).run P w = .ok z w) (h : Win w B e z v (n + 1) (x ++ xs)) (hx : x.length = z) : ∃ v', (∀ u, (Instr.slice t v (some (.int .i64 1)) none none).run P u = .ok v' u) ∧ Win w B e z v' n xs ∧ v'.ownBlock = v.ownBlock := by
  rcases h with ⟨h1, ⟨_, h2⟩ | ⟨g, cap, A, R, rfl, hb, hp, h3, h4, h5⟩⟩
  · omega
  · have hl : xs.length = n * z := by
      rw [List.length_append, hx, Nat.add_mul] at h1
      omega
    by_cases hc : 1 < cap
    · refine ⟨.slice (some ⟨g, (A ++ x).length, none⟩) n (cap - 1), fun u => ?_, ⟨hl, .inr ⟨g, cap - 1, A ++ x, R, rfl, hb, ?_, by omega, by omega, ?_⟩⟩, rfl⟩
      · have := run_fromZ ht hs g A.length (n + 1) cap 1 (by omega) hc u
        rw [show ((1 : Nat) : Int) = 1 from rfl] at this
        rw [this, List.length_append, hx, Nat.one_mul, Nat.add_sub_cancel]
      · rw [List.append_assoc]
        simpa using hp
      · rw [show cap - 1 - n = cap - (n + 1) by omega]
        exact h5
    · have e1 : cap = 1 := by omega
      have e2 : n = 0 := by omega
      subst e1 e2
      have e3 : xs = [] := List.eq_nil_of_length_eq_zero (by simpa using hl)
      subst e3
      refine ⟨.slice (some ⟨g, A.length, none⟩) 0 0, fun u => ?_, ⟨hl, .inr ⟨g, 0, A, x ++ R, rfl, hb, by simpa using hp, by omega, by omega, by simp⟩⟩, rfl⟩
      simp [Instr.slice, run_underlying ht, Instr.sliceBounds, run_sliceBound, hs, Addr.add]
theorem splice_in {α : Type} (A X R1 R2 vs : List α) (h : vs.length = R1.length) : splice (A ++ (X ++ (R1 ++ R2))) (A.length + X.length) vs = A ++ (X ++ (vs ++ R2)) := by
  rw [splice_behind, show X.length = X.length + 0 from rfl, splice_behind, splice_ahead _ _ _ _ (by omega), splice_all _ _ h]
/-- What a slice reads as is appended to a window. -/
theorem run_append_win {α : Type} {f : α → List Value} {P : Program} (w : World) (base : Nat) (t ty e : TypeId) (i : TypeInfo) (zv : Value) (size bytes : Nat) (ht : P.underlying t = some (.slice e)) (hi : P.info? e = some i) (hz : i.zero = some zv)
    (hsize : i.size = size) (hby : i.bytes = bytes) (hzs : zv.cells.size = size) (hsz : 0 < size) (v : Value) (n : Nat) (xs : List Value) (hown : Win w base e size v n xs)
    {d : α} {src : Value} {ys : List α} (hf : ∀ x, (f x).length = size) (hsee : SeesG f size d w src ys) (h1 : ∀ u ∈ flatG f ys, u.oneCell' = true) (h63 : n + ys.length ≤ maxLen) (hbytes : (n + ys.length) * bytes ≤ 140737488355328) (hbase : base ≤ w.heap.size) :
    ∃ v' w', (Builtin.append_ #[t, t] ty #[v, src]).run P w = .ok v' w' ∧ Win w' base e size v' (n + ys.length) (xs ++ flatG f ys) ∧ w.grownBy w' v.ownBlock ∧ (v'.ownBlock = v.ownBlock ∨ v'.ownBlock = some w.heap.size) := by
  have hl2 : (flatG f ys).length = ys.length * size := flatG_len hf ys
  have hlen : (xs ++ flatG f ys).length = (n + ys.length) * size := by rw [List.length_append, hown.1, hl2, Nat.add_mul]
  have hint : n + ys.length ≤ 9223372036854775807 := by unfold maxLen at h63; omega
  rcases hown with ⟨hx, ⟨rfl, rfl⟩ | ⟨g, cap, A, R, rfl, hb, hp, h3, h4, h5⟩⟩
  · obtain rfl : xs = [] := List.eq_nil_of_length_eq_zero (by simpa using hx)
    obtain ⟨v', w', r1, r2, r3, r4⟩ := run_append_seesG (P := P) w base t ty e i zv size bytes ht hi hz hsize hby hzs hsz _ 0 [] (World.ownsRow_nil _ _ _ _) hf hsee h1 h63 hbytes hbase
    exact ⟨v', w', r1, own_win r2, r3, r4⟩
  · have hsrc : Src P i.size t src ys.length (flatG f ys) w := by
      have hsee' := hsee
      obtain ⟨a, c, rfl, hc, hm, hn0, _⟩ := hsee
      rw [hsize]
      cases a with
      | none =>
        obtain rfl := hn0 rfl
        obtain rfl : ys = [] := List.eq_nil_of_length_eq_zero (by omega)
        exact Src.ofNil w ht 0
      | some ad => exact Src.ofSlice w ht ad ys.length c _ hl2 (hsee'.flat hf hsz) h1
    by_cases hroom : n + ys.length ≤ cap
    · have hR : (flatG f ys).length ≤ R.length := by
        rw [hl2]
        exact Nat.le_trans (Nat.mul_le_mul_right size (by omega)) h5
      have hin : ∀ j, j < (flatG f ys).length → A.length + n * i.size + j < (A ++ (xs ++ R)).length := by
        intro j hj
        rw [hsize, ← hx, List.length_append, List.length_append]
        omega
      have hr := run_append_room_src (P := P) w t t ty e i ht hi g A.length n cap src ys.length (flatG f ys) hsrc hroom (fun j hj => by rw [hp.cell (List.getElem?_eq_getElem (hin j hj))]; rfl) (fun j hj => hp.frozen _)
      refine ⟨_, _, hr, ⟨hlen, .inr ⟨g, cap, A, R.drop (flatG f ys).length, rfl, hb, ?_, hroom, h4, ?_⟩⟩, grown_sets g _ w _, .inl rfl⟩
      · have := hp.sets (flatG f ys) (A.length + n * i.size)
        have e1 : R = R.take (flatG f ys).length ++ R.drop (flatG f ys).length := (List.take_append_drop _ _).symm
        have e2 : splice (A ++ (xs ++ R)) (A.length + n * i.size) (flatG f ys) = A ++ (xs ++ (flatG f ys ++ R.drop (flatG f ys).length)) := by
          rw [hsize, ← hx]
          have := splice_in A xs (R.take (flatG f ys).length) (R.drop (flatG f ys).length) (flatG f ys) (by rw [List.length_take]; omega)
          rw [← e1] at this
          exact this
        rw [e2] at this
        rw [List.append_assoc]
        exact this
      · rw [List.length_drop, hl2]
        have : (cap - n) * size = (cap - (n + ys.length)) * size + ys.length * size := by
          rw [← Nat.add_mul]
          congr 1
          omega
        omega
    · have hr := run_append_grow_src (P := P) w t t ty e i zv ht hi hz (some ⟨g, A.length, none⟩) n cap xs (run_firstCells_some (P := P) w.drew i.size n ⟨g, A.length, none⟩ n cap xs (by rw [hsize]; exact hx) (fun j u hj => by
          rw [add_none]
          refine Hp.cell (w := w.drew) (t := e) (cs := A ++ (xs ++ R)) hp ?_
          have hj' := (List.getElem?_eq_some_iff.1 hj).1
          rw [List.getElem?_append_right (by omega), show A.length + j - A.length = j by omega, List.getElem?_append_left hj']
          exact hj)) src ys.length (flatG f ys) hsrc (by omega) (by omega) (by
          have g1 := nextslicecap_le (need := n + ys.length) (old := cap) (by omega)
          have g2 : Builtin.nextslicecap (n + ys.length) cap * i.bytes ≤ 2 * (n + ys.length) * i.bytes := Nat.mul_le_mul_right _ g1
          rw [hby, Nat.mul_assoc] at g2
          rw [hby]
          omega)
      refine ⟨_, _, hr, own_win (own_new (z := zv.cells) hlen (grownCap_ge w (n + ys.length) cap e) (grownCap_le_maxLen w (n + ys.length) cap e h63) hzs hbase), grown_new _ _ _, .inr rfl⟩
end
end Go.Proofs.Ytpbfgebecgikjaa
namespace Go.Proofs.Ytpbfgebecgikjaa
open Go.RowKit
set_option linter.unusedVariables false
set_option linter.unusedSimpArgs false
set_option maxRecDepth 100000
abbrev dfC (e : Int × Int) : List Value := [.int .i64 e.1, .int .i64 e.2]
def On.dl (o : On) (i : Nat) : Df := o.ds.getD i (false, 0)
def On.sl (o : On) (i : Nat) : Sr := o.st.getD i Sr.nil
/-- The landed owner, at a block: its shards, its line. -/
structure Lwo (w : World) (B b : Nat) (rv lv : Value) (vs : List Value) (F : Nat → Ft) (o : On) : Prop where
  hp : Hp w b 83 [.int .i64 o.sh, .int .i64 o.n, rv, lv, .bool o.over]
  row : w.ownsRow B 69 1 rv vs.length (flatG ifC vs)
  ln : Win w B 45 7 lv o.ln.length (flatG rtC o.ln)
  len : vs.length = o.st.length
  fam : Fam (fun w i G => Sh w B (vs.getD i .nilIface) (o.dl i).1 (o.dl i).2 (o.sl i) G) w vs.length F
def footO (b : Nat) (rv lv : Value) (n : Nat) (F : Nat → Ft) : Ft := fun k => (k = b ∨ rv.ownBlock = some k) ∨ lv.ownBlock = some k ∨ unF n F k
theorem win_two {w : World} {B B' : Nat} {e e' : TypeId} {z z' : Nat} {v v' : Value} {n n' : Nat} {xs xs' : List Value} (h : Win w B e z v n xs) (h' : w.ownsRow B' e' z' v' n' xs') (hne : e ≠ e') : ∀ k, v.ownBlock = some k → v'.ownBlock ≠ some k := by
  intro k h1 h2
  obtain ⟨cs, hq⟩ := h.hp h1
  exact own_type10 h' hq (fun e => hne e.symm) h2
theorem win_type {w : World} {B : Nat} {e e' : TypeId} {z : Nat} {v : Value} {n : Nat} {xs : List Value} (h : Win w B e z v n xs) {b : Nat} {cs : List Value} (hb : Hp w b e' cs) (hne : e ≠ e') : v.ownBlock ≠ some b := fun h1 => by
  obtain ⟨cs', hq⟩ := h.hp h1
  exact hp_type hq hb hne rfl
section
variable {w w' w2 : World} {B b : Nat} {rv lv lv2 : Value} {vs : List Value} {F : Nat → Ft} {o o' : On} {l : List Rt}
theorem Lwo.chg {G : Ft} (h : Lwo w B b rv lv vs F o) (hc : Chg w w' G) (ha : Apt G (footO b rv lv vs.length F)) : Lwo w' B b rv lv vs F o :=
  ⟨h.hp.chg hc (fun e => ha b e (.inl (.inl rfl))), own_chg h.row hc (fun k hk e => ha k e (.inl (.inr hk))), h.ln.chg hc (fun k hk e => ha k e (.inr (.inl hk))), h.len, h.fam.keeps hc (fun j hj g => g.keeps hc (fun k e1 e2 => ha k e1 (.inr (.inr ⟨j, hj, e2⟩))))⟩
theorem Lwo.below (h : Lwo w B b rv lv vs F o) (hb : Below w.heap.size w w') : Lwo w' B b rv lv vs F o := h.chg (Chg.of_below (S := fun _ => False) hb) (fun _ e => e.elim)
theorem Lwo.lies (h : Lwo w B b rv lv vs F o) : Lies w (footO b rv lv vs.length F) := by
  intro k hk
  rcases hk with (e | e) | e | ⟨i, hi, e⟩
  · rw [e]; exact h.hp.lt
  · exact (h.row.lt k e).2
  · exact (h.ln.lt k e).2
  · exact h.fam.li i hi k e
theorem Lwo.low (h : Lwo w B b rv lv vs F o) : w.cell? ⟨b, 0, none⟩ = some (.int .i64 o.sh) ∧ w.cell? ⟨b, 1, none⟩ = some (.int .i64 o.n) ∧ w.cell? ⟨b, 2, none⟩ = some rv ∧ w.cell? ⟨b, 3, none⟩ = some lv ∧ w.cell? ⟨b, 4, none⟩ = some (.bool o.over) :=
  ⟨h.hp.cell (j := 0) rfl, h.hp.cell (j := 1) rfl, h.hp.cell (j := 2) rfl, h.hp.cell (j := 3) rfl, h.hp.cell (j := 4) rfl⟩
theorem Lwo.nb (h : Lwo w B b rv lv vs F o) : ¬ unF vs.length F b := by
  rintro ⟨i, hi, e⟩
  exact (h.fam.ob i hi).other h.hp (by decide) (by decide) (by decide) (by decide) e
theorem Lwo.nrow (h : Lwo w B b rv lv vs F o) : ∀ k, rv.ownBlock = some k → ¬ unF vs.length F k := by
  rintro k hk ⟨i, hi, e⟩
  obtain ⟨cs, hq⟩ := own_hpC h.row hk
  exact (h.fam.ob i hi).other hq (by decide) (by decide) (by decide) (by decide) e
theorem Lwo.nln (h : Lwo w B b rv lv vs F o) : ∀ k, lv.ownBlock = some k → ¬ unF vs.length F k := by
  rintro k hk ⟨i, hi, e⟩
  obtain ⟨cs, hq⟩ := h.ln.hp hk
  exact (h.fam.ob i hi).other hq (by decide) (by decide) (by decide) (by decide) e
theorem Lwo.famO {w : World} (hd : o'.ds = o.ds) (hs : o'.st = o.st) (h : Fam (fun w i G => Sh w B (vs.getD i .nilIface) (o.dl i).1 (o.dl i).2 (o.sl i) G) w vs.length F) : Fam (fun w i G => Sh w B (vs.getD i .nilIface) (o'.dl i).1 (o'.dl i).2 (o'.sl i) G) w vs.length F := by
  have : (fun (w : World) i G => Sh w B (vs.getD i .nilIface) (o'.dl i).1 (o'.dl i).2 (o'.sl i) G) = (fun (w : World) i G => Sh w B (vs.getD i .nilIface) (o.dl i).1 (o.dl i).2 (o.sl i) G) := by
    funext w i G
    unfold On.dl On.sl
    rw [hd, hs]
  rw [this]
  exact h
/-- The line was changed in its own block or made anew, and is put into its place. -/
theorem Lwo.put (h : Lwo w B b rv lv vs F o) (hc : Chg w w2 (fun k => lv.ownBlock = some k)) (hall : Win w2 B 45 7 lv2 l.length (flatG rtC l)) (hnew : lv2.ownBlock = lv.ownBlock ∨ ∃ k, lv2.ownBlock = some k ∧ w.heap.size ≤ k) : Lwo (w2.setCell ⟨b, 3, none⟩ lv2) B b rv lv2 vs F (o.line l) ∧ Nx w (w2.setCell ⟨b, 3, none⟩ lv2) (footO b rv lv vs.length F) (footO b rv lv2 vs.length F) := by
  have n0 : ¬ lv.ownBlock = some b := win_type h.ln h.hp (by decide)
  have hb2 : Hp w2 b 83 [.int .i64 o.sh, .int .i64 o.n, rv, lv, .bool o.over] := h.hp.chg hc n0
  have hm2 : w2.ownsRow B 69 1 rv vs.length (flatG ifC vs) := own_chg h.row hc (fun k hk e => win_two h.ln h.row (by decide) k e hk)
  have hcs := Chg.set w2 b 3 lv2
  have hf2 := h.fam.keeps (P' := fun w i G => Sh w B (vs.getD i .nilIface) (o.dl i).1 (o.dl i).2 (o.sl i) G) hc (fun j hj g => g.keeps hc (fun k e1 e2 => h.nln k e1 ⟨j, hj, e2⟩))
  refine ⟨⟨hb2.set 3 lv2, own_chg hm2 hcs (fun k hk e => ?_), hall.chg hcs (fun k hk e => ?_), h.len, Lwo.famO (o := o) (o' := o.line l) rfl rfl (hf2.keeps hcs (fun j hj g => g.keeps hcs (fun k e1 e2 => by subst e1; exact h.nb ⟨j, hj, e2⟩)))⟩, ?_, ?_⟩
  · subst e; exact own_type10 hm2 hb2 (by decide) hk
  · subst e; exact win_type hall hb2 (by decide) hk
  · exact (hc.mono (T := footO b rv lv vs.length F) (fun k e => .inr (.inl e))).trans hcs (fun k _ e => .inl (.inl e))
  · rintro k (e | e | e)
    · exact .inl (.inl e)
    · rcases hnew with g | ⟨j, g1, g2⟩
      · exact .inl (.inr (.inl (by rw [← g]; exact e)))
      · rw [g1] at e
        exact .inr (by have := Option.some.inj e; omega)
    · exact .inl (.inr (.inr e))
/-- One shard goes a step. -/
theorem Lwo.go (h : Lwo w B b rv lv vs F o) {k : Nat} (hk : k < vs.length) {t' : Sr} {G : Ft} (hs : Sh w' B (vs.getD k .nilIface) (o.dl k).1 (o.dl k).2 t' G) (hn : Nx w w' (F k) G) : Lwo w' B b rv lv vs (upd F k G) ⟨o.sh, o.n, o.ds, o.st.set k t', o.ln, o.over⟩ ∧ Nx w w' (footO b rv lv vs.length F) (footO b rv lv vs.length (upd F k G)) := by
  have n1 : ¬ F k b := fun e => h.nb ⟨k, hk, e⟩
  have n2 : ∀ j, rv.ownBlock = some j → ¬ F k j := fun j hj e => h.nrow j hj ⟨k, hk, e⟩
  have n3 : ∀ j, lv.ownBlock = some j → ¬ F k j := fun j hj e => h.nln j hj ⟨k, hk, e⟩
  have hf := Nx.fam (n := vs.length) hk hn
  have hkt : k < o.st.length := by rw [← h.len]; exact hk
  refine ⟨⟨h.hp.chg hn.chg n1, own_chg h.row hn.chg n2, h.ln.chg hn.chg n3, by simp [h.len], h.fam.step hk hn hs.lies ?_ (fun j hj hne g ha => ?_)⟩, hn.chg.mono (fun j e => .inr (.inr ⟨k, hk, e⟩)), fun j hj => ?_⟩
  · show Sh w' B (vs.getD k .nilIface) (o.dl k).1 (o.dl k).2 ((o.st.set k t').getD k Sr.nil) G
    rw [getD_set_same hkt]
    exact hs
  · show Sh w' B (vs.getD j .nilIface) (o.dl j).1 (o.dl j).2 ((o.st.set k t').getD j Sr.nil) (F j)
    rw [getD_set_other (fun e => hne e.symm)]
    exact g.keeps hn.chg ha
  · rcases hj with e | e | e
    · exact .inl (.inl e)
    · exact .inl (.inr (.inl e))
    · rcases hf.new j e with g | g
      · exact .inl (.inr (.inr g))
      · exact .inr g
theorem lhas (h : Lwo w B b rv lv vs F o) (m : Int) : Calls Try.prog 30 #[.pointer (some ⟨b, 0, none⟩), .int .i64 m] w fun e w' => e = .returned (.bool (o.hasM m)) ∧ w = w' := by
  have c2 := h.low.2.2.1
  obtain ⟨a, cap, ev⟩ := own_shape h.row
  subst ev
  have hln := h.len
  by_cases h0 : m < 0
  · have e1 : o.hasM m = false := by simp [On.hasM]; omega
    have g0 : ¬ 0 ≤ m := by omega
    rw [e1]
    clear h
    go_enter Try.func30, Try.ntmps30
    go_wp2
    go_ret
    first | done | exact ⟨rfl, rfl⟩
  · have g0 : 0 ≤ m := by omega
    have e1 : o.hasM m = decide (m < (vs.length : Int)) := by simp [On.hasM, g0, hln]
    rw [e1]
    clear h hln e1 h0
    go_enter Try.func30, Try.ntmps30
    by_cases h1 : m < (vs.length : Int)
    · have e2 : decide (m < (vs.length : Int)) = true := by simpa using h1
      rw [e2]
      clear e2
      go_wp2
      go_ret
      first | done | exact ⟨rfl, rfl⟩
    · have e2 : decide (m < (vs.length : Int)) = false := by simpa using h1
      rw [e2]
      clear e2
      go_wp2
      go_ret
      first | done | exact ⟨rfl, rfl⟩
theorem lended (h : Lwo w B b rv lv vs F o) : Calls Try.prog 22 #[.pointer (some ⟨b, 0, none⟩)] w fun e w' => e = .returned (.bool o.over) ∧ w = w' := by
  have c4 := h.low.2.2.2.2
  clear h
  go_enter Try.func22, Try.ntmps22
  go_wp2
  go_ret
  first | done | exact ⟨rfl, rfl⟩
theorem lend (h : Lwo w B b rv lv vs F o) {E : Int} (HQ : Hid (o.end = (E, o'))) : Calls Try.prog 16 #[.pointer (some ⟨b, 0, none⟩)] w fun e w' => e = .returned (.int .i64 E) ∧ Lwo w' B b rv lv vs F o' ∧ Chg w w' (fun k => k = b) := by
  obtain ⟨-, -, -, c3, c4⟩ := h.low
  have f4 := h.hp.frozen 4
  obtain ⟨a, cap, ev, hle, hmx⟩ := h.ln.shape
  subst ev
  have HL := keepG h
  have hq := HQ.out
  unfold On.end at hq
  by_cases hl : o.ln = []
  · rw [if_pos hl] at hq
    injection hq with q1 q2
    subst q1 q2
    have hl0 : o.ln.length = 0 := by rw [hl]; rfl
    have hlI : ¬ (0 : Int) < o.ln.length := by omega
    clear h HQ hl hl0
    go_enter Try.func16, Try.ntmps16
    go_wp2
    go_ret
    have hcs := Chg.set w b 4 (.bool true)
    have hh := HL.out
    refine ⟨rfl, ⟨hh.hp.set 4 (.bool true), own_chg hh.row hcs (fun k hk e => ?_), hh.ln.chg hcs (fun k hk e => ?_), hh.len, Lwo.famO (o := o) rfl rfl (hh.fam.keeps hcs (fun j hj g => g.keeps hcs (fun k e1 e2 => by subst e1; exact hh.nb ⟨j, hj, e2⟩)))⟩, hcs⟩
    · subst e; exact own_type10 hh.row hh.hp (by decide) hk
    · subst e; exact win_type hh.ln hh.hp (by decide) hk
  · rw [if_neg hl] at hq
    injection hq with q1 q2
    subst q1 q2
    have hlI : (0 : Int) < o.ln.length := by have := List.length_pos_iff.2 hl; omega
    clear h HQ hl
    go_enter Try.func16, Try.ntmps16
    go_wp2
    go_ret
    exact ⟨rfl, HL.out, Chg.refl _ _⟩
theorem lwaiting (h : Lwo w B b rv lv vs F o) (hz : Hid (o.ln.length * 56 ≤ 140737488355328)) : Calls Try.prog 21 #[.pointer (some ⟨b, 0, none⟩)] w fun e w' => ∃ u, e = .returned u ∧ RoRt w' w.heap.size u o.ln ∧ Below w.heap.size w w' := by
  obtain ⟨-, -, -, c3, -⟩ := h.low
  obtain ⟨i0, hi0, hz0, hzs, hzb⟩ := info_parts infoRt
  have hsee := h.ln.sees rtC_len Rt.nil
  obtain ⟨a, cap, ev, hle, hmx⟩ := h.ln.shape
  obtain ⟨v2, w2, hr2, ho2, hg2, _⟩ := run_append_seesG (f := rtC) (d := Rt.nil) (P := Try.prog) w w.heap.size 34 34 45 i0 _ 7 56 Try.underlying34 hi0 hz0 hzs hzb rfl (by decide) (.slice none 0 0) 0 [] (World.ownsRow_nil _ _ _ _) rtC_len hsee (rt_flat o.ln) (by have := hz.out; unfold maxLen; omega) (by have := hz.out; omega) (Nat.le_refl _)
  rw [Nat.zero_add, List.nil_append] at ho2
  subst ev
  have HR2 := keepG hr2
  have HO2 := keepG ho2
  have HB2 : Hid (Below w.heap.size w w2) := (Chg.of_grown' hg2 (S := fun _ => False) (fun b hb => by cases hb)).below (fun k e => e.elim) (Nat.le_refl _)
  clear h hsee hr2 ho2 hg2
  go_enter Try.func21, Try.ntmps21
  go_wp2_with (at_builtin; go_must (refine wpList_appG _ rfl (.const (.slice none 0 0)) (.tmp 6) 34 34 rfl _ _ rfl rfl HR2.out ?_; obtain ⟨va, vc, ev⟩ := own_shape HO2.out; subst ev))
  go_ret
  exact ⟨_, rfl, HO2.out, HB2.out⟩
/-- Where a shard stands in the row, and what a call of it comes to. -/
theorem Lwo.at (h : Lwo w B b rv lv vs F o) {k : Nat} (hk : k < vs.length) : ∃ g cap, rv = .slice (some ⟨g, 0, none⟩) vs.length cap ∧ g < w.heap.size ∧ w.cell? ⟨g, k, none⟩ = some (vs.getD k .nilIface) := by
  obtain ⟨g, cc, ev, _, hg, _, _, hat⟩ := own_atG ifC_len .nilIface h.row (by omega)
  have d0 := (hat k hk 0 (by omega)).1
  simp only [List.getElem?_cons_zero, Nat.add_zero, Nat.mul_one] at d0
  exact ⟨g, cc, ev, hg, d0⟩
theorem lpairs (h : Lwo w B b rv lv vs F o) (hk : o.Ok) (m : Int) {E : Int} {ps : List Pp} (HQ : Hid ((if o.hasM m = true then (0, (o.sr m).1) else (2, [])) = (E, ps))) : Calls Try.prog 18 #[.pointer (some ⟨b, 0, none⟩), .int .i64 m] w fun e w' => ∃ u, e = .returned (.tuple #[u, .int .i64 E]) ∧ RoPp w' w.heap.size u ps ∧ Below w.heap.size w w' := by
  have hq := HQ.out
  have HH := keepG (lhas h m)
  cases hm : o.hasM m with
  | false =>
    rw [hm] at hq HH
    simp at hq
    obtain ⟨rfl, rfl⟩ := hq
    clear h HQ
    go_enter Try.func18, Try.ntmps18
    go_wp2_with (go_at_call 30; go_must (refine HH.out.mono ?_); rintro e w1 ⟨rfl, rfl⟩)
    go_ret2
    exact ⟨_, rfl, World.ownsRow_nil _ _ _ _, Below.refl _ _⟩
  | true =>
    rw [hm] at hq HH
    simp at hq
    obtain ⟨rfl, hq⟩ := hq
    obtain ⟨k, rfl, hks⟩ := On.hasM_nat hm
    have hkv : k < vs.length := by rw [h.len]; exact hks
    have hkd : k < o.ds.length := by rw [← hk.len]; exact hks
    have hinv := hk.inv k hkd
    obtain ⟨g, cap, ev, hg, d0⟩ := h.at hkv
    obtain ⟨-, -, c2, -, -⟩ := h.low
    subst ev
    obtain ⟨ff, fx, hvia, hcall⟩ := (h.fam.ob k hkv).pairs hinv.1 hinv.2
    obtain ⟨t, u, ev, hmeth, hcf⟩ := hvia
    rw [ev] at d0
    have hq' : (o.sl k).1 = ps := hq
    rw [hq'] at hcall
    have HPR := keepG hcall
    have hkI : (k : Int) < vs.length := by omega
    clear h HQ hm hks hkv hkd hinv ev hcall hq hq' hk
    go_enter Try.func18, Try.ntmps18
    go_wp2_with (first
      | (go_at_call 30; go_must (refine HH.out.mono ?_); rintro e w1 ⟨rfl, rfl⟩)
      | (show Calls Try.prog ff _ _ _; go_must (refine HPR.out.mono ?_); rintro e w1 ⟨u1, rfl, ho1, hb1⟩))
    go_ret2
    exact ⟨_, rfl, ho1, hb1⟩
end
end Go.Proofs.Ytpbfgebecgikjaa
namespace Go.Proofs.Ytpbfgebecgikjaa
open Go.RowKit
set_option linter.unusedVariables false
set_option linter.unusedSimpArgs false
set_option maxRecDepth 100000
section
variable {w w' w2 : World} {B b : Nat} {rv lv lv2 : Value} {vs : List Value} {F : Nat → Ft} {o o' : On} {l : List Rt}
set_option maxHeartbeats 12800000 in
theorem ltakes (h : Lwo w B b rv lv vs F o) (hn : 1 ≤ o.n ∧ o.n ≤ 4) (tf tt : Int) (wk : Bool) (tm top tk tz : Int) (hk : 0 ≤ tk ∧ tk < 18446744073709551616) {r : Bool} (HR : Hid (o.takes ⟨tf, tt, wk, tm, top, tk, tz⟩ = r)) : Calls Try.prog 26 #[.pointer (some ⟨b, 0, none⟩), .agg #[.int .i64 tf, .int .i64 tt, .bool wk, .int .i64 tm, .int .i64 top, .int .u64 tk, .int .u64 tz]] w fun e w' => e = .returned (.bool r) ∧ Below w.heap.size w w' := by
  obtain ⟨nq, HNQ⟩ : ∃ nq, Hid (w.heap.size = nq) := ⟨_, rfl⟩
  obtain ⟨Y, HY, HPQ, HPI, HBY⟩ : ∃ Y, Hid ((w.alloc (.cells #[.int .i64 tf, .int .i64 tt, .bool wk, .int .i64 tm, .int .i64 top, .int .u64 tk, .int .u64 tz] 45)).alloc (.cells #[.int .i64 tm, .int .i64 top, .int .u64 tk, .int .u64 tz] 43) = Y) ∧ Hid (Hp Y nq 45 (rtC ⟨tf, tt, wk, tm, top, tk, tz⟩)) ∧ Hid (Hp Y (nq + 1) 43 [.int .i64 tm, .int .i64 top, .int .u64 tk, .int .u64 tz]) ∧ Hid (Below w.heap.size w Y) := ⟨_, rfl, by rw [← HNQ.out]; exact (Hp.new w (rtC ⟨tf, tt, wk, tm, top, tk, tz⟩) _).alloc _, by rw [← HNQ.out]; have := Hp.new (w.alloc (.cells #[.int .i64 tf, .int .i64 tt, .bool wk, .int .i64 tm, .int .i64 top, .int .u64 tk, .int .u64 tz] 45)) [.int .i64 tm, .int .i64 top, .int .u64 tk, .int .u64 tz] 43; rw [show (w.alloc (.cells #[.int .i64 tf, .int .i64 tt, .bool wk, .int .i64 tm, .int .i64 top, .int .u64 tk, .int .u64 tz] 45)).heap.size = w.heap.size + 1 by simp] at this; exact this, (below_allocG w _).alloc (by simp) _⟩
  have HD := keepG (h.below HBY.out)
  have HH := keepG (lhas HD.out tm)
  obtain ⟨c0, c1, -, -, -⟩ := HD.out.low
  have q2 : Y.cell? ⟨nq, 2, none⟩ = some (.bool wk) := HPQ.out.cell (j := 2) rfl
  have i0 : Y.cell? ⟨nq + 1, 0, none⟩ = some (.int .i64 tm) := HPI.out.cell (j := 0) rfl
  have i1 : Y.cell? ⟨nq + 1, 1, none⟩ = some (.int .i64 top) := HPI.out.cell (j := 1) rfl
  have i2 : Y.cell? ⟨nq + 1, 2, none⟩ = some (.int .u64 tk) := HPI.out.cell (j := 2) rfl
  clear h
  cases hm : o.hasM tm with
  | false =>
    have hr := HR.out
    rw [show o.takes ⟨tf, tt, wk, tm, top, tk, tz⟩ = false by simp [On.takes, hm]] at hr
    subst hr
    rw [hm] at HH
    go_enter Try.func26, Try.ntmps26
    go_wp2_with (first | (go_at_call 30; go_must (refine HH.out.mono ?_); rintro e w1 ⟨rfl, rfl⟩) | (rw [HY.out, HNQ.out]))
    go_ret
    exact ⟨rfl, HBY.out⟩
  | true =>
    rw [hm] at HH
    have hnI : (1 : Int) ≤ o.n ∧ (o.n : Int) ≤ 4 := by omega
    have HOF := keepG (lof_any tk o.n Y.drew hk (by omega))
    go_enter Try.func26, Try.ntmps26
    go_wp2_with (first | (go_at_call 30; go_must (refine HH.out.mono ?_); rintro e w1 ⟨rfl, rfl⟩) | (rw [HY.out, HNQ.out]) | (refine wp_region_held_drew (S := fun w' => w'.cell? ⟨nq, 2, none⟩ = some (.bool wk) ∧ w'.cell? ⟨nq + 1, 1, none⟩ = some (.int .i64 top) ∧ w'.cell? ⟨nq + 1, 2, none⟩ = some (.int .u64 tk) ∧ w'.cell? ⟨b, 1, none⟩ = some (.int .i64 o.n) ∧ w'.cell? ⟨b, 0, none⟩ = some (.int .i64 o.sh)) (by kernel_rfl) ⟨q2, i1, i2, c1, c0⟩ (fun hHeld => ?_)))
    cases wk with
    | true =>
      have hr := HR.out
      rw [show o.takes ⟨tf, tt, true, tm, top, tk, tz⟩ = true by simp [On.takes, hm]] at hr
      subst hr
      refine tkGo [0, 1, 2] ?_
      repeat (refine tkOne (v := ?_) rfl (by kernel_rfl) (by kernel_rfl) (by kernel_rfl) (fun _ _ _ h => h) (by assumption) (by rfl) ?_ ?_; rotate_left; (intro wy hSw; (try dsimp only at hSw); go_simp; (first | done | with_reducible rfl)); try simp only [Act.put, List.getElem_toArray, List.getElem_cons_zero, List.getElem_cons_succ, List.setIfInBounds_toArray, List.set_cons_zero, List.set_cons_succ])
      refine tkEnd ?_
      refine wpAnyH_take (i := 3) (v := undef) rfl (by kernel_rfl) (by kernel_rfl) (by kernel_rfl) (fun _ _ _ h => h) (Or.inr ⟨by rfl, rfl⟩) (by assumption) ?_
      try simp only [Act.put, List.getElem_toArray, List.getElem_cons_zero, List.getElem_cons_succ, List.setIfInBounds_toArray, List.set_cons_zero, List.set_cons_succ]
      refine wpAnyH_take (i := 4) (v := undef) rfl (by kernel_rfl) (by kernel_rfl) (by kernel_rfl) (fun _ _ _ h => h) (Or.inr ⟨by rfl, rfl⟩) (by assumption) ?_
      try simp only [Act.put, List.getElem_toArray, List.getElem_cons_zero, List.getElem_cons_succ, List.setIfInBounds_toArray, List.set_cons_zero, List.set_cons_succ]
      refine wpAnyH_take (i := 5) (v := undef) rfl (by kernel_rfl) (by kernel_rfl) (by kernel_rfl) (fun _ _ _ h => h) (Or.inr ⟨by rfl, rfl⟩) (by assumption) ?_
      try simp only [Act.put, List.getElem_toArray, List.getElem_cons_zero, List.getElem_cons_succ, List.setIfInBounds_toArray, List.set_cons_zero, List.set_cons_succ]
      refine wpAnyH_take (i := 6) (v := undef) rfl (by kernel_rfl) (by kernel_rfl) (by kernel_rfl) (fun _ _ _ h => h) (Or.inr ⟨by rfl, rfl⟩) (by assumption) ?_
      try simp only [Act.put, List.getElem_toArray, List.getElem_cons_zero, List.getElem_cons_succ, List.setIfInBounds_toArray, List.set_cons_zero, List.set_cons_succ]
      refine wpAnyH_take (i := 7) (v := undef) rfl (by kernel_rfl) (by kernel_rfl) (by kernel_rfl) (fun _ _ _ h => h) (Or.inr ⟨by rfl, rfl⟩) (by assumption) ?_
      try simp only [Act.put, List.getElem_toArray, List.getElem_cons_zero, List.getElem_cons_succ, List.setIfInBounds_toArray, List.set_cons_zero, List.set_cons_succ]
      refine wpAnyH_take (i := 8) (v := undef) rfl (by kernel_rfl) (by kernel_rfl) (by kernel_rfl) (fun _ _ _ h => h) (Or.inr ⟨by rfl, rfl⟩) (by assumption) ?_
      try simp only [Act.put, List.getElem_toArray, List.getElem_cons_zero, List.getElem_cons_succ, List.setIfInBounds_toArray, List.set_cons_zero, List.set_cons_succ]
      refine wpAnyH_take (i := 9) (v := undef) rfl (by kernel_rfl) (by kernel_rfl) (by kernel_rfl) (fun _ _ _ h => h) (Or.inr ⟨by rfl, rfl⟩) (by assumption) ?_
      try simp only [Act.put, List.getElem_toArray, List.getElem_cons_zero, List.getElem_cons_succ, List.setIfInBounds_toArray, List.set_cons_zero, List.set_cons_succ]
      refine wpAnyH_take (i := 10) (v := undef) rfl (by kernel_rfl) (by kernel_rfl) (by kernel_rfl) (fun _ _ _ h => h) (Or.inr ⟨by rfl, rfl⟩) (by assumption) ?_
      try simp only [Act.put, List.getElem_toArray, List.getElem_cons_zero, List.getElem_cons_succ, List.setIfInBounds_toArray, List.set_cons_zero, List.set_cons_succ]
      refine wpAnyH_take (i := 11) (v := undef) rfl (by kernel_rfl) (by kernel_rfl) (by kernel_rfl) (fun _ _ _ h => h) (Or.inr ⟨by rfl, rfl⟩) (by assumption) ?_
      try simp only [Act.put, List.getElem_toArray, List.getElem_cons_zero, List.getElem_cons_succ, List.setIfInBounds_toArray, List.set_cons_zero, List.set_cons_succ]
      refine wpAnyH_take (i := 12) (v := undef) rfl (by kernel_rfl) (by kernel_rfl) (by kernel_rfl) (fun _ _ _ h => h) (Or.inr ⟨by rfl, rfl⟩) (by assumption) ?_
      try simp only [Act.put, List.getElem_toArray, List.getElem_cons_zero, List.getElem_cons_succ, List.setIfInBounds_toArray, List.set_cons_zero, List.set_cons_succ]
      refine wpAnyH_take (i := 13) (v := undef) rfl (by kernel_rfl) (by kernel_rfl) (by kernel_rfl) (fun _ _ _ h => h) (Or.inr ⟨by rfl, rfl⟩) (by assumption) ?_
      try simp only [Act.put, List.getElem_toArray, List.getElem_cons_zero, List.getElem_cons_succ, List.setIfInBounds_toArray, List.set_cons_zero, List.set_cons_succ]
      refine wpAnyH_take (i := 14) (v := undef) rfl (by kernel_rfl) (by kernel_rfl) (by kernel_rfl) (fun _ _ _ h => h) (Or.inr ⟨by rfl, rfl⟩) (by assumption) ?_
      try simp only [Act.put, List.getElem_toArray, List.getElem_cons_zero, List.getElem_cons_succ, List.setIfInBounds_toArray, List.set_cons_zero, List.set_cons_succ]
      refine wpAnyH_take (i := 15) (v := undef) rfl (by kernel_rfl) (by kernel_rfl) (by kernel_rfl) (fun _ _ _ h => h) (Or.inr ⟨by rfl, rfl⟩) (by assumption) ?_
      try simp only [Act.put, List.getElem_toArray, List.getElem_cons_zero, List.getElem_cons_succ, List.setIfInBounds_toArray, List.set_cons_zero, List.set_cons_succ]
      refine wpAnyH_take (i := 16) (v := undef) rfl (by kernel_rfl) (by kernel_rfl) (by kernel_rfl) (fun _ _ _ h => h) (Or.inr ⟨by rfl, rfl⟩) (by assumption) ?_
      try simp only [Act.put, List.getElem_toArray, List.getElem_cons_zero, List.getElem_cons_succ, List.setIfInBounds_toArray, List.set_cons_zero, List.set_cons_succ]
      refine wpAnyH_take (i := 17) (v := undef) rfl (by kernel_rfl) (by kernel_rfl) (by kernel_rfl) (fun _ _ _ h => h) (Or.inr ⟨by rfl, rfl⟩) (by assumption) ?_
      try simp only [Act.put, List.getElem_toArray, List.getElem_cons_zero, List.getElem_cons_succ, List.setIfInBounds_toArray, List.set_cons_zero, List.set_cons_succ]
      refine wpAnyH_take (i := 18) (v := undef) rfl (by kernel_rfl) (by kernel_rfl) (by kernel_rfl) (fun _ _ _ h => h) (Or.inr ⟨by rfl, rfl⟩) (by assumption) ?_
      try simp only [Act.put, List.getElem_toArray, List.getElem_cons_zero, List.getElem_cons_succ, List.setIfInBounds_toArray, List.set_cons_zero, List.set_cons_succ]
      refine wpAnyH_take (i := 19) (v := undef) rfl (by kernel_rfl) (by kernel_rfl) (by kernel_rfl) (fun _ _ _ h => h) (Or.inr ⟨by rfl, rfl⟩) (by assumption) ?_
      try simp only [Act.put, List.getElem_toArray, List.getElem_cons_zero, List.getElem_cons_succ, List.setIfInBounds_toArray, List.set_cons_zero, List.set_cons_succ]
      refine wpAnyH_take (i := 20) (v := undef) rfl (by kernel_rfl) (by kernel_rfl) (by kernel_rfl) (fun _ _ _ h => h) (Or.inr ⟨by rfl, rfl⟩) (by assumption) ?_
      try simp only [Act.put, List.getElem_toArray, List.getElem_cons_zero, List.getElem_cons_succ, List.setIfInBounds_toArray, List.set_cons_zero, List.set_cons_succ]
      refine wpAnyH_take (i := 21) (v := undef) rfl (by kernel_rfl) (by kernel_rfl) (by kernel_rfl) (fun _ _ _ h => h) (Or.inr ⟨by rfl, rfl⟩) (by assumption) ?_
      try simp only [Act.put, List.getElem_toArray, List.getElem_cons_zero, List.getElem_cons_succ, List.setIfInBounds_toArray, List.set_cons_zero, List.set_cons_succ]
      refine wpAnyH_take (i := 22) (v := undef) rfl (by kernel_rfl) (by kernel_rfl) (by kernel_rfl) (fun _ _ _ h => h) (Or.inr ⟨by rfl, rfl⟩) (by assumption) ?_
      try simp only [Act.put, List.getElem_toArray, List.getElem_cons_zero, List.getElem_cons_succ, List.setIfInBounds_toArray, List.set_cons_zero, List.set_cons_succ]
      refine wpAnyH_take (i := 23) (v := undef) rfl (by kernel_rfl) (by kernel_rfl) (by kernel_rfl) (fun _ _ _ h => h) (Or.inr ⟨by rfl, rfl⟩) (by assumption) ?_
      try simp only [Act.put, List.getElem_toArray, List.getElem_cons_zero, List.getElem_cons_succ, List.setIfInBounds_toArray, List.set_cons_zero, List.set_cons_succ]
      refine wpAnyH_take (i := 24) (v := undef) rfl (by kernel_rfl) (by kernel_rfl) (by kernel_rfl) (fun _ _ _ h => h) (Or.inr ⟨by rfl, rfl⟩) (by assumption) ?_
      try simp only [Act.put, List.getElem_toArray, List.getElem_cons_zero, List.getElem_cons_succ, List.setIfInBounds_toArray, List.set_cons_zero, List.set_cons_succ]
      refine tkGo [25, 26] ?_
      repeat (refine tkOne (v := ?_) rfl (by kernel_rfl) (by kernel_rfl) (by kernel_rfl) (fun _ _ _ h => h) (by assumption) (by rfl) ?_ ?_; rotate_left; (intro wy hSw; (try dsimp only at hSw); go_simp; (first | done | with_reducible rfl)); try simp only [Act.put, List.getElem_toArray, List.getElem_cons_zero, List.getElem_cons_succ, List.setIfInBounds_toArray, List.set_cons_zero, List.set_cons_succ])
      refine tkEnd ?_
      refine wpAnyH_done (by kernel_rfl) ?_ _
      clear hHeld
      go_wp2
      go_ret
      exact ⟨rfl, below_drG HBY.out⟩
    | false =>
      by_cases ho0 : 0 ≤ top
      · have ho0d : decide (0 ≤ top) = true := by simpa using ho0
        by_cases ho5 : top < 5
        · have ho5d : decide (top < 5) = true := by simpa using ho5
          have h4 : top ≤ 4 := by omega
          have hr := HR.out
          rw [show o.takes ⟨tf, tt, false, tm, top, tk, tz⟩ = (ofL tk o.n == (o.sh : Int)) by simp only [On.takes, On.here, hm, ho0, h4, Bool.true_and, Bool.false_or, decide_true]; rfl] at hr
          refine tkGo [0, 1, 2, 3, 4, 5, 6, 7, 8, 9, 10, 11, 12, 13, 14, 15, 16, 17, 19, 20, 21, 22] ?_
          repeat (refine tkOne (v := ?_) rfl (by kernel_rfl) (by kernel_rfl) (by kernel_rfl) (fun _ _ _ h => h) (by assumption) (by rfl) ?_ ?_; rotate_left; (intro wy hSw; (try dsimp only at hSw); go_simp; (first | done | with_reducible rfl)); try simp only [Act.put, List.getElem_toArray, List.getElem_cons_zero, List.getElem_cons_succ, List.setIfInBounds_toArray, List.set_cons_zero, List.set_cons_succ])
          refine tkEnd ?_
          refine wpAnyH_ready (rs := [18]) (by kernel_rfl) (by simp) ?_
          refine AllReadyH.cons rfl (fun KK hK => ?_) AllReadyH.nil
          rw [if_pos (by rfl)]
          go_simp
          go_at_call 24
          refine HOF.out.mono ?_
          rintro e w4 ⟨rfl, rfl⟩
          go_simp
          refine hK.out _ _ ⟨q2, i1, i2, c1, c0⟩ (fun hHeld => ?_)
          clear hK KK
          try simp only [Act.put, List.getElem_toArray, List.getElem_cons_zero, List.getElem_cons_succ, List.setIfInBounds_toArray, List.set_cons_zero, List.set_cons_succ]
          refine tkGo [23, 24, 25, 26] ?_
          repeat (refine tkOne (v := ?_) rfl (by kernel_rfl) (by kernel_rfl) (by kernel_rfl) (fun _ _ _ h => h) (by assumption) (by rfl) ?_ ?_; rotate_left; (intro wy hSw; (try dsimp only at hSw); go_simp; (first | done | with_reducible rfl)); try simp only [Act.put, List.getElem_toArray, List.getElem_cons_zero, List.getElem_cons_succ, List.setIfInBounds_toArray, List.set_cons_zero, List.set_cons_succ])
          refine tkEnd ?_
          refine wpAnyH_done (by kernel_rfl) ?_ _
          clear hHeld
          go_wp2
          go_ret
          exact ⟨rfl, below_drG HBY.out⟩
        · have ho5d : decide (top < 5) = false := by simpa using ho5
          have hr := HR.out
          have h4 : ¬ top ≤ 4 := by omega
          rw [show o.takes ⟨tf, tt, false, tm, top, tk, tz⟩ = false by simp [On.takes, On.here, h4]] at hr
          subst hr
          refine tkGo [0, 1, 2, 3, 4, 5, 6, 7, 8, 9, 10, 11] ?_
          repeat (refine tkOne (v := ?_) rfl (by kernel_rfl) (by kernel_rfl) (by kernel_rfl) (fun _ _ _ h => h) (by assumption) (by rfl) ?_ ?_; rotate_left; (intro wy hSw; (try dsimp only at hSw); go_simp; (first | done | with_reducible rfl)); try simp only [Act.put, List.getElem_toArray, List.getElem_cons_zero, List.getElem_cons_succ, List.setIfInBounds_toArray, List.set_cons_zero, List.set_cons_succ])
          refine tkEnd ?_
          refine wpAnyH_take (i := 12) (v := undef) rfl (by kernel_rfl) (by kernel_rfl) (by kernel_rfl) (fun _ _ _ h => h) (Or.inr ⟨by rfl, rfl⟩) (by assumption) ?_
          try simp only [Act.put, List.getElem_toArray, List.getElem_cons_zero, List.getElem_cons_succ, List.setIfInBounds_toArray, List.set_cons_zero, List.set_cons_succ]
          refine wpAnyH_take (i := 13) (v := undef) rfl (by kernel_rfl) (by kernel_rfl) (by kernel_rfl) (fun _ _ _ h => h) (Or.inr ⟨by rfl, rfl⟩) (by assumption) ?_
          try simp only [Act.put, List.getElem_toArray, List.getElem_cons_zero, List.getElem_cons_succ, List.setIfInBounds_toArray, List.set_cons_zero, List.set_cons_succ]
          refine wpAnyH_take (i := 14) (v := undef) rfl (by kernel_rfl) (by kernel_rfl) (by kernel_rfl) (fun _ _ _ h => h) (Or.inr ⟨by rfl, rfl⟩) (by assumption) ?_
          try simp only [Act.put, List.getElem_toArray, List.getElem_cons_zero, List.getElem_cons_succ, List.setIfInBounds_toArray, List.set_cons_zero, List.set_cons_succ]
          refine wpAnyH_take (i := 15) (v := undef) rfl (by kernel_rfl) (by kernel_rfl) (by kernel_rfl) (fun _ _ _ h => h) (Or.inr ⟨by rfl, rfl⟩) (by assumption) ?_
          try simp only [Act.put, List.getElem_toArray, List.getElem_cons_zero, List.getElem_cons_succ, List.setIfInBounds_toArray, List.set_cons_zero, List.set_cons_succ]
          refine wpAnyH_take (i := 16) (v := undef) rfl (by kernel_rfl) (by kernel_rfl) (by kernel_rfl) (fun _ _ _ h => h) (Or.inr ⟨by rfl, rfl⟩) (by assumption) ?_
          try simp only [Act.put, List.getElem_toArray, List.getElem_cons_zero, List.getElem_cons_succ, List.setIfInBounds_toArray, List.set_cons_zero, List.set_cons_succ]
          refine wpAnyH_take (i := 17) (v := undef) rfl (by kernel_rfl) (by kernel_rfl) (by kernel_rfl) (fun _ _ _ h => h) (Or.inr ⟨by rfl, rfl⟩) (by assumption) ?_
          try simp only [Act.put, List.getElem_toArray, List.getElem_cons_zero, List.getElem_cons_succ, List.setIfInBounds_toArray, List.set_cons_zero, List.set_cons_succ]
          refine wpAnyH_take (i := 18) (v := undef) rfl (by kernel_rfl) (by kernel_rfl) (by kernel_rfl) (fun _ _ _ h => h) (Or.inr ⟨by rfl, rfl⟩) (by assumption) ?_
          try simp only [Act.put, List.getElem_toArray, List.getElem_cons_zero, List.getElem_cons_succ, List.setIfInBounds_toArray, List.set_cons_zero, List.set_cons_succ]
          refine wpAnyH_take (i := 19) (v := undef) rfl (by kernel_rfl) (by kernel_rfl) (by kernel_rfl) (fun _ _ _ h => h) (Or.inr ⟨by rfl, rfl⟩) (by assumption) ?_
          try simp only [Act.put, List.getElem_toArray, List.getElem_cons_zero, List.getElem_cons_succ, List.setIfInBounds_toArray, List.set_cons_zero, List.set_cons_succ]
          refine wpAnyH_take (i := 20) (v := undef) rfl (by kernel_rfl) (by kernel_rfl) (by kernel_rfl) (fun _ _ _ h => h) (Or.inr ⟨by rfl, rfl⟩) (by assumption) ?_
          try simp only [Act.put, List.getElem_toArray, List.getElem_cons_zero, List.getElem_cons_succ, List.setIfInBounds_toArray, List.set_cons_zero, List.set_cons_succ]
          refine wpAnyH_take (i := 21) (v := undef) rfl (by kernel_rfl) (by kernel_rfl) (by kernel_rfl) (fun _ _ _ h => h) (Or.inr ⟨by rfl, rfl⟩) (by assumption) ?_
          try simp only [Act.put, List.getElem_toArray, List.getElem_cons_zero, List.getElem_cons_succ, List.setIfInBounds_toArray, List.set_cons_zero, List.set_cons_succ]
          refine wpAnyH_take (i := 22) (v := undef) rfl (by kernel_rfl) (by kernel_rfl) (by kernel_rfl) (fun _ _ _ h => h) (Or.inr ⟨by rfl, rfl⟩) (by assumption) ?_
          try simp only [Act.put, List.getElem_toArray, List.getElem_cons_zero, List.getElem_cons_succ, List.setIfInBounds_toArray, List.set_cons_zero, List.set_cons_succ]
          refine wpAnyH_take (i := 23) (v := undef) rfl (by kernel_rfl) (by kernel_rfl) (by kernel_rfl) (fun _ _ _ h => h) (Or.inr ⟨by rfl, rfl⟩) (by assumption) ?_
          try simp only [Act.put, List.getElem_toArray, List.getElem_cons_zero, List.getElem_cons_succ, List.setIfInBounds_toArray, List.set_cons_zero, List.set_cons_succ]
          refine tkGo [24, 25, 26] ?_
          repeat (refine tkOne (v := ?_) rfl (by kernel_rfl) (by kernel_rfl) (by kernel_rfl) (fun _ _ _ h => h) (by assumption) (by rfl) ?_ ?_; rotate_left; (intro wy hSw; (try dsimp only at hSw); go_simp; (first | done | with_reducible rfl)); try simp only [Act.put, List.getElem_toArray, List.getElem_cons_zero, List.getElem_cons_succ, List.setIfInBounds_toArray, List.set_cons_zero, List.set_cons_succ])
          refine tkEnd ?_
          refine wpAnyH_done (by kernel_rfl) ?_ _
          clear hHeld
          go_wp2
          go_ret
          exact ⟨rfl, below_drG HBY.out⟩
      · have ho0d : decide (0 ≤ top) = false := by simpa using ho0
        have hr := HR.out
        rw [show o.takes ⟨tf, tt, false, tm, top, tk, tz⟩ = false by simp [On.takes, On.here, ho0]] at hr
        subst hr
        refine tkGo [0, 1, 2, 3, 4, 5, 6] ?_
        repeat (refine tkOne (v := ?_) rfl (by kernel_rfl) (by kernel_rfl) (by kernel_rfl) (fun _ _ _ h => h) (by assumption) (by rfl) ?_ ?_; rotate_left; (intro wy hSw; (try dsimp only at hSw); go_simp; (first | done | with_reducible rfl)); try simp only [Act.put, List.getElem_toArray, List.getElem_cons_zero, List.getElem_cons_succ, List.setIfInBounds_toArray, List.set_cons_zero, List.set_cons_succ])
        refine tkEnd ?_
        refine wpAnyH_take (i := 7) (v := undef) rfl (by kernel_rfl) (by kernel_rfl) (by kernel_rfl) (fun _ _ _ h => h) (Or.inr ⟨by rfl, rfl⟩) (by assumption) ?_
        try simp only [Act.put, List.getElem_toArray, List.getElem_cons_zero, List.getElem_cons_succ, List.setIfInBounds_toArray, List.set_cons_zero, List.set_cons_succ]
        refine wpAnyH_take (i := 8) (v := undef) rfl (by kernel_rfl) (by kernel_rfl) (by kernel_rfl) (fun _ _ _ h => h) (Or.inr ⟨by rfl, rfl⟩) (by assumption) ?_
        try simp only [Act.put, List.getElem_toArray, List.getElem_cons_zero, List.getElem_cons_succ, List.setIfInBounds_toArray, List.set_cons_zero, List.set_cons_succ]
        refine wpAnyH_take (i := 9) (v := undef) rfl (by kernel_rfl) (by kernel_rfl) (by kernel_rfl) (fun _ _ _ h => h) (Or.inr ⟨by rfl, rfl⟩) (by assumption) ?_
        try simp only [Act.put, List.getElem_toArray, List.getElem_cons_zero, List.getElem_cons_succ, List.setIfInBounds_toArray, List.set_cons_zero, List.set_cons_succ]
        refine tkGo [10, 11] ?_
        repeat (refine tkOne (v := ?_) rfl (by kernel_rfl) (by kernel_rfl) (by kernel_rfl) (fun _ _ _ h => h) (by assumption) (by rfl) ?_ ?_; rotate_left; (intro wy hSw; (try dsimp only at hSw); go_simp; (first | done | with_reducible rfl)); try simp only [Act.put, List.getElem_toArray, List.getElem_cons_zero, List.getElem_cons_succ, List.setIfInBounds_toArray, List.set_cons_zero, List.set_cons_succ])
        refine tkEnd ?_
        refine wpAnyH_take (i := 12) (v := undef) rfl (by kernel_rfl) (by kernel_rfl) (by kernel_rfl) (fun _ _ _ h => h) (Or.inr ⟨by rfl, rfl⟩) (by assumption) ?_
        try simp only [Act.put, List.getElem_toArray, List.getElem_cons_zero, List.getElem_cons_succ, List.setIfInBounds_toArray, List.set_cons_zero, List.set_cons_succ]
        refine wpAnyH_take (i := 13) (v := undef) rfl (by kernel_rfl) (by kernel_rfl) (by kernel_rfl) (fun _ _ _ h => h) (Or.inr ⟨by rfl, rfl⟩) (by assumption) ?_
        try simp only [Act.put, List.getElem_toArray, List.getElem_cons_zero, List.getElem_cons_succ, List.setIfInBounds_toArray, List.set_cons_zero, List.set_cons_succ]
        refine wpAnyH_take (i := 14) (v := undef) rfl (by kernel_rfl) (by kernel_rfl) (by kernel_rfl) (fun _ _ _ h => h) (Or.inr ⟨by rfl, rfl⟩) (by assumption) ?_
        try simp only [Act.put, List.getElem_toArray, List.getElem_cons_zero, List.getElem_cons_succ, List.setIfInBounds_toArray, List.set_cons_zero, List.set_cons_succ]
        refine wpAnyH_take (i := 15) (v := undef) rfl (by kernel_rfl) (by kernel_rfl) (by kernel_rfl) (fun _ _ _ h => h) (Or.inr ⟨by rfl, rfl⟩) (by assumption) ?_
        try simp only [Act.put, List.getElem_toArray, List.getElem_cons_zero, List.getElem_cons_succ, List.setIfInBounds_toArray, List.set_cons_zero, List.set_cons_succ]
        refine wpAnyH_take (i := 16) (v := undef) rfl (by kernel_rfl) (by kernel_rfl) (by kernel_rfl) (fun _ _ _ h => h) (Or.inr ⟨by rfl, rfl⟩) (by assumption) ?_
        try simp only [Act.put, List.getElem_toArray, List.getElem_cons_zero, List.getElem_cons_succ, List.setIfInBounds_toArray, List.set_cons_zero, List.set_cons_succ]
        refine wpAnyH_take (i := 17) (v := undef) rfl (by kernel_rfl) (by kernel_rfl) (by kernel_rfl) (fun _ _ _ h => h) (Or.inr ⟨by rfl, rfl⟩) (by assumption) ?_
        try simp only [Act.put, List.getElem_toArray, List.getElem_cons_zero, List.getElem_cons_succ, List.setIfInBounds_toArray, List.set_cons_zero, List.set_cons_succ]
        refine wpAnyH_take (i := 18) (v := undef) rfl (by kernel_rfl) (by kernel_rfl) (by kernel_rfl) (fun _ _ _ h => h) (Or.inr ⟨by rfl, rfl⟩) (by assumption) ?_
        try simp only [Act.put, List.getElem_toArray, List.getElem_cons_zero, List.getElem_cons_succ, List.setIfInBounds_toArray, List.set_cons_zero, List.set_cons_succ]
        refine wpAnyH_take (i := 19) (v := undef) rfl (by kernel_rfl) (by kernel_rfl) (by kernel_rfl) (fun _ _ _ h => h) (Or.inr ⟨by rfl, rfl⟩) (by assumption) ?_
        try simp only [Act.put, List.getElem_toArray, List.getElem_cons_zero, List.getElem_cons_succ, List.setIfInBounds_toArray, List.set_cons_zero, List.set_cons_succ]
        refine wpAnyH_take (i := 20) (v := undef) rfl (by kernel_rfl) (by kernel_rfl) (by kernel_rfl) (fun _ _ _ h => h) (Or.inr ⟨by rfl, rfl⟩) (by assumption) ?_
        try simp only [Act.put, List.getElem_toArray, List.getElem_cons_zero, List.getElem_cons_succ, List.setIfInBounds_toArray, List.set_cons_zero, List.set_cons_succ]
        refine wpAnyH_take (i := 21) (v := undef) rfl (by kernel_rfl) (by kernel_rfl) (by kernel_rfl) (fun _ _ _ h => h) (Or.inr ⟨by rfl, rfl⟩) (by assumption) ?_
        try simp only [Act.put, List.getElem_toArray, List.getElem_cons_zero, List.getElem_cons_succ, List.setIfInBounds_toArray, List.set_cons_zero, List.set_cons_succ]
        refine wpAnyH_take (i := 22) (v := undef) rfl (by kernel_rfl) (by kernel_rfl) (by kernel_rfl) (fun _ _ _ h => h) (Or.inr ⟨by rfl, rfl⟩) (by assumption) ?_
        try simp only [Act.put, List.getElem_toArray, List.getElem_cons_zero, List.getElem_cons_succ, List.setIfInBounds_toArray, List.set_cons_zero, List.set_cons_succ]
        refine wpAnyH_take (i := 23) (v := undef) rfl (by kernel_rfl) (by kernel_rfl) (by kernel_rfl) (fun _ _ _ h => h) (Or.inr ⟨by rfl, rfl⟩) (by assumption) ?_
        try simp only [Act.put, List.getElem_toArray, List.getElem_cons_zero, List.getElem_cons_succ, List.setIfInBounds_toArray, List.set_cons_zero, List.set_cons_succ]
        refine tkGo [24, 25, 26] ?_
        repeat (refine tkOne (v := ?_) rfl (by kernel_rfl) (by kernel_rfl) (by kernel_rfl) (fun _ _ _ h => h) (by assumption) (by rfl) ?_ ?_; rotate_left; (intro wy hSw; (try dsimp only at hSw); go_simp; (first | done | with_reducible rfl)); try simp only [Act.put, List.getElem_toArray, List.getElem_cons_zero, List.getElem_cons_succ, List.setIfInBounds_toArray, List.set_cons_zero, List.set_cons_succ])
        refine tkEnd ?_
        refine wpAnyH_done (by kernel_rfl) ?_ _
        clear hHeld
        go_wp2
        go_ret
        exact ⟨rfl, below_drG HBY.out⟩
set_option maxHeartbeats 12800000 in
theorem lsend (h : Lwo w B b rv lv vs F o) (hn : 1 ≤ o.n ∧ o.n ≤ 4) (hB : B ≤ w.heap.size) {qv : Value} {qs : List Rt} (hz : Hid ((o.ln.length + qs.length) * 56 ≤ 140737488355328)) (hs : SeesG rtC 7 Rt.nil w qv qs) (hwf : ∀ q ∈ qs, q.wf) {E : Int} (HQ : Hid (o.send qs = (E, o'))) : Calls Try.prog 10 #[.pointer (some ⟨b, 0, none⟩), qv] w fun e w' => e = .returned (.int .i64 E) ∧ ∃ lv', Lwo w' B b rv lv' vs F o' ∧ Nx w w' (footO b rv lv vs.length F) (footO b rv lv' vs.length F) := by
  obtain ⟨-, -, -, c3, c4⟩ := h.low
  have HD := keepG h
  have HQV := keepG (fun (wx : World) (hb : Below w.heap.size w wx) => hs.below hb (Nat.le_refl _))
  have HWF := keepG hwf
  have hq := HQ.out
  unfold On.send at hq
  obtain ⟨qa, qc, ev, hql, hqm⟩ := hs.shape
  subst ev
  obtain ⟨i0, hi0, hz0, hzs, hzb⟩ := info_parts infoRt
  have HHB := keepG hB
  clear h hs hwf HQ hB
  go_enter Try.func10, Try.ntmps10
  cases hov : o.over with
  | true =>
    rw [hov] at c4
    rw [if_pos hov] at hq
    injection hq with e1 e2
    subst e1 e2
    clear hov
    go_wp2
    go_ret
    exact ⟨rfl, _, HD.out, Nx.refl _ _⟩
  | false =>
    rw [hov] at c4
    rw [if_neg (by rw [hov]; decide)] at hq
    have HQ2 := keepG hq
    clear hq hov
    go_wp2
    go_loopw [13] (fun i wr => ∃ j : Nat, j ≤ qs.length ∧ i = .int .i64 j ∧ Hid ((qs.take j).all o.takes = true ∧ Below w.heap.size w wr)) (fun i _ => qs.length - (intOf i).toNat)
    case atStart => exact ⟨0, by omega, rfl, rfl, Below.refl _ _⟩
    case round =>
      obtain ⟨j, hj, rfl, HI⟩ := hrel
      rename World => wr
      clear c3 c4
      by_cases hlt : j < qs.length
      · have hltI : (j : Int) < qs.length := by omega
        obtain ⟨p, off, ev, hat⟩ := rtAt (HQV.out wr HI.out.2) hlt
        subst ev
        obtain ⟨q, HQ⟩ : ∃ q, Hid (qs.getD j Rt.nil = q) := ⟨_, rfl⟩
        have hmem := getD_memR2 qs j hlt
        have hqw := HWF.out _ hmem
        have hta := all_takeR (p := o.takes) hlt
        rw [HQ.out] at hmem hqw hta
        rw [HI.out.1, Bool.true_and] at hta
        obtain ⟨tf, tt, wk, tm, top, tk, tz⟩ := q
        obtain ⟨d0, d1, d2, d3, d4, d5, d6⟩ := hat j hlt _ HQ.out
        simp only at d0 d1 d2 d3 d4 d5 d6 hqw
        have HNO : Hid (o.takes ⟨tf, tt, wk, tm, top, tk, tz⟩ = false → E = 2 ∧ o = o') := by
          intro hf
          have hall : qs.all o.takes = false := by
            cases he : qs.all o.takes with
            | false => rfl
            | true => rw [List.all_eq_true.1 he _ hmem] at hf; cases hf
          have hq2 := HQ2.out
          rw [if_neg (by rw [hall]; decide)] at hq2
          injection hq2 with e1 e2
          exact ⟨e1.symm, e2⟩
        have HTA := keepG hta
        obtain ⟨W1, HW1, HP1, HB1⟩ : ∃ W1, Hid (wr.alloc (.cells #[.int .i64 tf, .int .i64 tt, .bool wk, .int .i64 tm, .int .i64 top, .int .u64 tk, .int .u64 tz] 45) = W1) ∧ Hid (Hp W1 wr.heap.size 45 (rtC ⟨tf, tt, wk, tm, top, tk, tz⟩)) ∧ Hid (Below w.heap.size w W1) := ⟨_, rfl, Hp.new wr (rtC ⟨tf, tt, wk, tm, top, tk, tz⟩) _, HI.out.2.trans ((below_allocG wr _).mono HI.out.2.size)⟩
        obtain ⟨r, HR⟩ : ∃ r, Hid (o.takes ⟨tf, tt, wk, tm, top, tk, tz⟩ = r) := ⟨_, rfl⟩
        have HCT := keepG (ltakes (HD.out.below HB1.out) hn tf tt wk tm top tk tz hqw HR)
        rw [HR.out] at HNO HTA
        clear hat hmem hta hqw
        cases r with
        | false =>
          obtain ⟨e1, e2⟩ := HNO.out rfl
          subst e1 e2
          go_wp2_with (go_at_call 26; rw [HW1.out]; go_must (refine HCT.out.mono ?_); rintro e w1 ⟨rfl, hb1⟩; go_must (have HB2 := keepG (HB1.out.trans (hb1.mono HB1.out.size)); clear hb1))
          go_ret
          exact ⟨rfl, _, HD.out.below HB2.out, Nx.below HB2.out⟩
        | true =>
          go_wp2_with (go_at_call 26; rw [HW1.out]; go_must (refine HCT.out.mono ?_); rintro e w1 ⟨rfl, hb1⟩; go_must (have HB2 := keepG (HB1.out.trans (hb1.mono HB1.out.size)); clear hb1))
          go_roundw
          case rel => exact ⟨j + 1, by omega, by go_num, HTA.out, HB2.out⟩
          case measure => simp [intOf]; omega
      · have hltI : ¬ (j : Int) < qs.length := by omega
        have hall : qs.all o.takes = true := by have := HI.out.1; rw [List.take_of_length_le (by omega)] at this; exact this
        have hq2 := HQ2.out
        rw [if_pos hall] at hq2
        injection hq2 with e1 e2
        subst e1 e2
        have HD2 := keepG (HD.out.below HI.out.2)
        obtain ⟨-, -, -, c3, -⟩ := HD2.out.low
        obtain ⟨v2, w2, hr2, ho2, hg2, hn2⟩ := run_append_win (f := rtC) (d := Rt.nil) (P := Try.prog) wr B 34 34 45 i0 _ 7 56 Try.underlying34 hi0 hz0 hzs hzb rfl (by decide) lv o.ln.length (flatG rtC o.ln) HD2.out.ln rtC_len (HQV.out wr HI.out.2) (rt_flat qs) (by have := hz.out; unfold maxLen; omega) hz.out (Nat.le_trans HHB.out HI.out.2.size)
        rw [← flatG_app, ← List.length_append] at ho2
        have hput := HD2.out.put (Chg.of_grown' hg2 (fun b hb => hb)) ho2 (hn2.elim .inl (fun e => .inr ⟨_, e, Nat.le_refl _⟩))
        have HPUT := keepG hput
        have HR2 := keepG hr2
        have z3 : w2.cell? ⟨b, 3, none⟩ = some lv := (HD2.out.hp.grown hg2 (fun e => win_type HD2.out.ln HD2.out.hp (by decide) e.symm)).cell (j := 3) rfl
        have f3 : w2.frozen? ⟨b, 3, none⟩ = false := (HD2.out.hp.grown hg2 (fun e => win_type HD2.out.ln HD2.out.hp (by decide) e.symm)).frozen 3
        obtain ⟨xa, xc, ev, -, -⟩ := HD2.out.ln.shape
        obtain ⟨ya, yc, ev2, -, -⟩ := ho2.shape
        subst ev ev2
        clear ho2 hg2 hn2 hput hr2 hall
        go_wp2_with (at_builtin; go_must (refine wpList_appG _ rfl (.tmp 26) (.tmp 27) 34 34 rfl _ _ rfl rfl HR2.out ?_))
        go_ret
        have hP := HPUT.out
        rw [List.length_append] at hP
        exact ⟨rfl, _, hP.1, (Nx.below HI.out.2).trans hP.2⟩
end
end Go.Proofs.Ytpbfgebecgikjaa
namespace Go.Proofs.Ytpbfgebecgikjaa
open Go.RowKit
set_option linter.unusedVariables false
set_option linter.unusedSimpArgs false
set_option maxRecDepth 100000
theorem rp_ret1 {fn : Func} {p : Tmp} {w2 : World} {n : Nat} {tmps : Array Value} {r : Ry} {u : Value} {Q : Ending → World → Prop} (hr : fn.results = #[.cell p 50]) (hp : tmps.getD p undef = .pointer (some ⟨n, 0, none⟩)) (hx : Hp w2 n 50 (rpC r u)) (hQ : Q (.returned (rpV r u)) w2) : bodyPost Try.prog fn Q .ret ⟨tmps, []⟩ w2 := by
  refine bodyPost_ret (v := rpV r u) ?_ rfl hQ
  rw [results_cellG hr, hp]
  simp only [asAddr, Sem.run_pure, Result.andThen]
  rw [run_boxRp hx]
theorem rp_cellsL {w : World} {n : Nat} {p : Ry} {u : Value} (h : Hp w n 50 (rpC p u)) : (w.cell? ⟨n, 0, none⟩ = some (.int .i64 p.q.f) ∧ w.cell? ⟨n, 1, none⟩ = some (.int .i64 p.q.t) ∧ w.cell? ⟨n, 2, none⟩ = some (.bool p.q.wk) ∧ w.cell? ⟨n, 3, none⟩ = some (.int .i64 p.q.m) ∧ w.cell? ⟨n, 4, none⟩ = some (.int .i64 p.q.op) ∧ w.cell? ⟨n, 5, none⟩ = some (.int .u64 p.q.k) ∧ w.cell? ⟨n, 6, none⟩ = some (.int .u64 p.q.v)) ∧ w.cell? ⟨n, 7, none⟩ = some (.int .i64 p.x.E) ∧ w.cell? ⟨n, 8, none⟩ = some (.bool p.x.f) ∧ w.cell? ⟨n, 9, none⟩ = some (.int .u64 p.x.v) ∧ w.cell? ⟨n, 10, none⟩ = some (.bool p.x.o) ∧ w.cell? ⟨n, 11, none⟩ = some (.int .u64 p.x.k) ∧ w.cell? ⟨n, 12, none⟩ = some (.int .u64 p.x.u) ∧ w.cell? ⟨n, 13, none⟩ = some u :=
  ⟨⟨h.cell (j := 0) rfl, h.cell (j := 1) rfl, h.cell (j := 2) rfl, h.cell (j := 3) rfl, h.cell (j := 4) rfl, h.cell (j := 5) rfl, h.cell (j := 6) rfl⟩, h.cell (j := 7) rfl, h.cell (j := 8) rfl, h.cell (j := 9) rfl, h.cell (j := 10) rfl, h.cell (j := 11) rfl, h.cell (j := 12) rfl, h.cell (j := 13) rfl⟩
theorem hp_frL {w : World} {n : Nat} {t : TypeId} {cs : List Value} (h : Hp w n t cs) : (w.frozen? ⟨n, 0, none⟩ = false ∧ w.frozen? ⟨n, 1, none⟩ = false ∧ w.frozen? ⟨n, 2, none⟩ = false ∧ w.frozen? ⟨n, 3, none⟩ = false ∧ w.frozen? ⟨n, 4, none⟩ = false ∧ w.frozen? ⟨n, 5, none⟩ = false ∧ w.frozen? ⟨n, 6, none⟩ = false) ∧ w.frozen? ⟨n, 7, none⟩ = false ∧ w.frozen? ⟨n, 8, none⟩ = false ∧ w.frozen? ⟨n, 9, none⟩ = false ∧ w.frozen? ⟨n, 10, none⟩ = false ∧ w.frozen? ⟨n, 11, none⟩ = false ∧ w.frozen? ⟨n, 12, none⟩ = false ∧ w.frozen? ⟨n, 13, none⟩ = false :=
  ⟨⟨h.frozen 0, h.frozen 1, h.frozen 2, h.frozen 3, h.frozen 4, h.frozen 5, h.frozen 6⟩, h.frozen 7, h.frozen 8, h.frozen 9, h.frozen 10, h.frozen 11, h.frozen 12, h.frozen 13⟩
/-- The four boxes that reply makes. -/
structure Bx (w X : World) (y : Rt) : Prop where
  be : Below w.heap.size w X
  sz : X.heap.size = w.heap.size + 4
  q : Hp X w.heap.size 45 (rtC y)
  a : Hp X (w.heap.size + 1) 50 (rpC Ry.nil (.slice none 0 0))
  i : Hp X (w.heap.size + 2) 43 [.int .i64 y.m, .int .i64 y.op, .int .u64 y.k, .int .u64 y.v]
  r : Hp X (w.heap.size + 3) 50 (rpC ⟨y, Rq.none, []⟩ (.slice none 0 0))
theorem bx_new (w : World) (tf tt : Int) (wk : Bool) (k top tk tz : Int) : ∃ X, Hid ((((w.alloc (.cells #[.int .i64 tf, .int .i64 tt, .bool wk, .int .i64 k, .int .i64 top, .int .u64 tk, .int .u64 tz] 45)).alloc (.cells #[.int .i64 0, .int .i64 0, .bool false, .int .i64 0, .int .i64 0, .int .u64 0, .int .u64 0, .int .i64 0, .bool false, .int .u64 0, .bool false, .int .u64 0, .int .u64 0, .slice none 0 0] 50)).alloc (.cells #[.int .i64 k, .int .i64 top, .int .u64 tk, .int .u64 tz] 43)).alloc (.cells #[.int .i64 tf, .int .i64 tt, .bool wk, .int .i64 k, .int .i64 top, .int .u64 tk, .int .u64 tz, .int .i64 0, .bool false, .int .u64 0, .bool false, .int .u64 0, .int .u64 0, .slice none 0 0] 50) = X) ∧ Bx w X ⟨tf, tt, wk, k, top, tk, tz⟩ := by
  obtain ⟨W1, h1⟩ : ∃ W1, w.alloc (.cells #[.int .i64 tf, .int .i64 tt, .bool wk, .int .i64 k, .int .i64 top, .int .u64 tk, .int .u64 tz] 45) = W1 := ⟨_, rfl⟩
  have z1 : W1.heap.size = w.heap.size + 1 := by rw [← h1]; simp
  have b1 : Below w.heap.size w W1 := by rw [← h1]; exact below_allocG _ _
  have p1 : Hp W1 w.heap.size 45 (rtC ⟨tf, tt, wk, k, top, tk, tz⟩) := by rw [← h1]; exact Hp.new w (rtC ⟨tf, tt, wk, k, top, tk, tz⟩) _
  obtain ⟨W2, h2⟩ : ∃ W2, W1.alloc (.cells #[.int .i64 0, .int .i64 0, .bool false, .int .i64 0, .int .i64 0, .int .u64 0, .int .u64 0, .int .i64 0, .bool false, .int .u64 0, .bool false, .int .u64 0, .int .u64 0, .slice none 0 0] 50) = W2 := ⟨_, rfl⟩
  have z2 : W2.heap.size = w.heap.size + 2 := by rw [← h2]; simp [z1]
  have b2 : Below W1.heap.size W1 W2 := by rw [← h2]; exact below_allocG _ _
  have p2 : Hp W2 (w.heap.size + 1) 50 (rpC Ry.nil (.slice none 0 0)) := by rw [← h2, ← z1]; exact Hp.new W1 (rpC Ry.nil (.slice none 0 0)) _
  obtain ⟨W3, h3⟩ : ∃ W3, W2.alloc (.cells #[.int .i64 k, .int .i64 top, .int .u64 tk, .int .u64 tz] 43) = W3 := ⟨_, rfl⟩
  have z3 : W3.heap.size = w.heap.size + 3 := by rw [← h3]; simp [z2]
  have b3 : Below W2.heap.size W2 W3 := by rw [← h3]; exact below_allocG _ _
  have p3 : Hp W3 (w.heap.size + 2) 43 [.int .i64 k, .int .i64 top, .int .u64 tk, .int .u64 tz] := by rw [← h3, ← z2]; exact Hp.new W2 [.int .i64 k, .int .i64 top, .int .u64 tk, .int .u64 tz] _
  obtain ⟨W4, h4⟩ : ∃ W4, W3.alloc (.cells #[.int .i64 tf, .int .i64 tt, .bool wk, .int .i64 k, .int .i64 top, .int .u64 tk, .int .u64 tz, .int .i64 0, .bool false, .int .u64 0, .bool false, .int .u64 0, .int .u64 0, .slice none 0 0] 50) = W4 := ⟨_, rfl⟩
  have z4 : W4.heap.size = w.heap.size + 4 := by rw [← h4]; simp [z3]
  have b4 : Below W3.heap.size W3 W4 := by rw [← h4]; exact below_allocG _ _
  have p4 : Hp W4 (w.heap.size + 3) 50 (rpC ⟨⟨tf, tt, wk, k, top, tk, tz⟩, Rq.none, []⟩ (.slice none 0 0)) := by rw [← h4, ← z3]; exact Hp.new W3 (rpC ⟨⟨tf, tt, wk, k, top, tk, tz⟩, Rq.none, []⟩ (.slice none 0 0)) _
  refine ⟨W4, ?_, ((b1.trans (b2.mono (by omega))).trans (b3.mono (by omega))).trans (b4.mono (by omega)), z4, ((p1.below b2 p1.lt).below b3 (p1.below b2 p1.lt).lt).below b4 ((p1.below b2 p1.lt).below b3 (p1.below b2 p1.lt).lt).lt, (p2.below b3 p2.lt).below b4 (p2.below b3 p2.lt).lt, p3.below b4 p3.lt, p4⟩
  show _ = _
  rw [h1, h2, h3, h4]
section
variable {w w' w2 : World} {B b : Nat} {rv lv lv2 : Value} {vs : List Value} {F : Nat → Ft} {o o' : On} {l : List Rt}
set_option maxHeartbeats 12800000 in
theorem lreply_true (h : Lwo w B b rv lv vs F o) {k : Nat} (hk : k < vs.length) (hinv : InvSh (o.dl k).1 (o.dl k).2 (o.sl k)) (hcap : (o.dl k).2 ≤ 16) (hB : B ≤ w.heap.size) (tf tt top tk tz : Int) {p : Ry} {o' : On} (HS : Hid (o.serve ⟨tf, tt, true, (k : Int), top, tk, tz⟩ o.ln = (p, o'))) : Calls Try.prog 28 #[.pointer (some ⟨b, 0, none⟩), .agg #[.int .i64 tf, .int .i64 tt, .bool true, .int .i64 k, .int .i64 top, .int .u64 tk, .int .u64 tz]] w fun e w' => ∃ u, e = .returned (rpV p u) ∧ ∃ F', Lwo w' B b rv lv vs F' o' ∧ Nx w w' (footO b rv lv vs.length F) (footO b rv lv vs.length F') ∧ RoPp w' w.heap.size u p.ps ∧ Apt (footO b rv lv vs.length F') (ftV u) := by
  obtain ⟨X, HX, hbx⟩ := bx_new w tf tt true (k : Int) top tk tz
  have HBX := keepG hbx
  have HLW := keepG h
  obtain ⟨n, HN⟩ : ∃ n, Hid (w.heap.size = n) := ⟨_, rfl⟩
  have HLX := keepG (h.below hbx.be)
  have HLXd := keepG ((h.below hbx.be).below (below_drG (Below.refl X.heap.size X)))
  obtain ⟨g, cap, ev, hg, _⟩ := h.at hk
  subst ev
  obtain ⟨v, HV⟩ : ∃ v, Hid (vs.getD k .nilIface = v) := ⟨_, rfl⟩
  have HSS : Hid (∀ (wx : World) (F1 : Nat → Ft) (o1 : On), Lwo wx B b (.slice (some ⟨g, 0, none⟩) vs.length cap) lv vs F1 o1 → Hp wx (n + 2) 43 [.int .i64 k, .int .i64 top, .int .u64 tk, .int .u64 tz] → wx.cell? ⟨b, 2, none⟩ = some (.slice (some ⟨g, 0, none⟩) vs.length cap) ∧ wx.cell? ⟨n + 2, 0, none⟩ = some (.int .i64 k) ∧ wx.cell? ⟨g, k, none⟩ = some v ∧ wx.cell? ⟨n + 2, 1, none⟩ = some (.int .i64 top) ∧ wx.cell? ⟨n + 2, 2, none⟩ = some (.int .u64 tk) ∧ wx.cell? ⟨n + 2, 3, none⟩ = some (.int .u64 tz)) := by
    intro wx F1 o1 hl hp
    obtain ⟨g', cap', ev, _, d0⟩ := hl.at hk
    simp only [Value.slice.injEq, Option.some.injEq, Addr.mk.injEq, true_and, and_true] at ev
    obtain ⟨rfl, rfl⟩ := ev
    rw [HV.out] at d0
    exact ⟨hl.low.2.2.1, hp.cell (j := 0) rfl, d0, hp.cell (j := 1) rfl, hp.cell (j := 2) rfl, hp.cell (j := 3) rfl⟩
  rw [HN.out] at hg
  have e2 : X.cell? ⟨n, 2, none⟩ = some (.bool true) := by rw [← HN.out]; exact hbx.q.cell (j := 2) rfl
  have HPI : Hid (Hp X (n + 2) 43 [.int .i64 k, .int .i64 top, .int .u64 tk, .int .u64 tz]) := by rw [← HN.out]; exact hbx.i
  have HPR : Hid (Hp X (n + 3) 50 (rpC ⟨(⟨tf, tt, true, (k : Int), top, tk, tz⟩ : Rt), Rq.none, []⟩ (.slice none 0 0))) := by rw [← HN.out]; exact hbx.r
  have HPA : Hid (Hp X (n + 1) 50 (rpC Ry.nil (.slice none 0 0))) := by rw [← HN.out]; exact hbx.a
  obtain ⟨s0, s1, s2, s3, s4, s5⟩ := HSS.out X F o HLX.out HPI.out
  have hkI : (k : Int) < vs.length := by omega
  have HK := keepG hk
  have hs := HS.out
  rw [show o.serve (⟨tf, tt, true, (k : Int), top, tk, tz⟩ : Rt) o.ln = (⟨(⟨tf, tt, true, (k : Int), top, tk, tz⟩ : Rt), Rq.none, (o.sl k).1⟩, o) by unfold On.serve; rw [if_pos rfl]; rfl] at hs
  injection hs with h1 h2
  subst h1 h2
  obtain ⟨ff, fx, hvia, hcall⟩ := (HLXd.out.fam.ob k hk).pairs hinv hcap
  obtain ⟨t, u, ev, hmeth, hcf⟩ := hvia
  rw [HV.out] at ev
  subst ev
  have HCP := keepG hcall
  clear h hbx hcall hinv hcap hk hB HS
  go_enter Try.func28, Try.ntmps28
  go_wp2_with (first | (rw [HX.out, HN.out]) | (refine wp_region_held_drew (S := fun w' => w'.cell? ⟨b, 2, none⟩ = some (.slice (some ⟨g, 0, none⟩) vs.length cap) ∧ w'.cell? ⟨n + 2, 0, none⟩ = some (.int .i64 k) ∧ w'.cell? ⟨g, k, none⟩ = some (.iface t u) ∧ w'.cell? ⟨n + 2, 1, none⟩ = some (.int .i64 top) ∧ w'.cell? ⟨n + 2, 2, none⟩ = some (.int .u64 tk) ∧ w'.cell? ⟨n + 2, 3, none⟩ = some (.int .u64 tz)) (by kernel_rfl) ⟨s0, s1, s2, s3, s4, s5⟩ (fun hHeld => ?_)))
  refine tkGo [0, 1, 2, 3, 4, 5, 6, 7] ?_
  repeat (refine tkOne (v := ?_) rfl (by kernel_rfl) (by kernel_rfl) (by kernel_rfl) (fun _ _ _ h => h) (by assumption) (by rfl) ?_ ?_; rotate_left; (intro wy hSw; (try dsimp only at hSw); go_simp; (first | done | with_reducible rfl)); try simp only [Act.put, List.getElem_toArray, List.getElem_cons_zero, List.getElem_cons_succ, List.setIfInBounds_toArray, List.set_cons_zero, List.set_cons_succ])
  refine tkEnd ?_
  refine wpAnyH_ready (rs := [8]) (by kernel_rfl) (by simp) ?_
  refine AllReadyH.cons rfl (fun KK hK => ?_) AllReadyH.nil
  rw [if_pos (by rfl)]
  go_simp
  refine HCP.out.mono ?_
  rintro e w6 ⟨u1, rfl, hr6, hb6⟩
  obtain ⟨ua, uc, ev⟩ := own_shape hr6
  subst ev
  have hb7 : Below X.heap.size X w6 := below_undrG hb6
  have HP6 := keepG (HPR.out.below hb7 HPR.out.lt)
  have HA6 := keepG (HPA.out.below hb7 HPA.out.lt)
  have HI6 := keepG (HPI.out.below hb7 HPI.out.lt)
  have HL6 := keepG (HLX.out.below hb7)
  have HR6 : Hid (w6.ownsRow X.heap.size 80 2 (.slice ua (o.sl k).1.length uc) (o.sl k).1.length (flatG ppC (o.sl k).1)) := hr6
  have HB6 := keepG hb7
  clear hr6 hb6 hb7
  go_simp
  refine hK.out _ _ (HSS.out w6 F o HL6.out HI6.out) (fun hHeld => ?_)
  clear hK KK
  try simp only [Act.put, List.getElem_toArray, List.getElem_cons_zero, List.getElem_cons_succ, List.setIfInBounds_toArray, List.set_cons_zero, List.set_cons_succ]
  have y13 := HP6.out.cell (j := 13) rfl
  have f13 := HP6.out.frozen 13
  have hgn3 : ¬ n + 3 = g := by omega
  have hbn3 : ¬ n + 3 = b := by have := HLW.out.hp.lt; have := HN.out; omega
  obtain ⟨W7, HW7, HP7, HA7, HI7, HL7, HC7⟩ : ∃ W7, Hid (w6.setCell ⟨n + 3, 13, none⟩ (.slice ua (o.sl k).1.length uc) = W7) ∧ Hid (Hp W7 (n + 3) 50 (rpC ⟨(⟨tf, tt, true, (k : Int), top, tk, tz⟩ : Rt), Rq.none, (o.sl k).1⟩ (.slice ua (o.sl k).1.length uc))) ∧ Hid (Hp W7 (n + 1) 50 (rpC Ry.nil (.slice none 0 0))) ∧ Hid (Hp W7 (n + 2) 43 [.int .i64 k, .int .i64 top, .int .u64 tk, .int .u64 tz]) ∧ Hid (Lwo W7 B b (.slice (some ⟨g, 0, none⟩) vs.length cap) lv vs F o) ∧ Hid (Chg w6 W7 (fun j => j = n + 3)) := ⟨_, rfl, HP6.out.set 13 _, HA6.out.far (by omega), HI6.out.far (by omega), HL6.out.chg (Chg.set w6 (n + 3) 13 _) (fun j e1 e2 => by have := HLW.out.lies j e2; have e3 : j = n + 3 := e1; have := HN.out; omega), Chg.set w6 (n + 3) 13 _⟩
  refine tkGo [9] ?_
  repeat (refine tkOne (v := ?_) rfl (by kernel_rfl) (by kernel_rfl) (by kernel_rfl) (fun _ _ _ h => h) (by assumption) (by rfl) ?_ ?_; rotate_left; (intro wy hSw; (try dsimp only at hSw); go_simp; (first | done | with_reducible rfl)); try simp only [Act.put, List.getElem_toArray, List.getElem_cons_zero, List.getElem_cons_succ, List.setIfInBounds_toArray, List.set_cons_zero, List.set_cons_succ])
  refine tkEnd ?_
  refine wpAnyH_ready (rs := [10]) (by kernel_rfl) (by simp) ?_
  refine AllReadyH.cons rfl (fun KK hK => ?_) AllReadyH.nil
  rw [if_pos (by rfl)]
  go_simp
  rw [HW7.out]
  refine hK.out _ _ (HSS.out W7 F o HL7.out HI7.out) (fun hHeld => ?_)
  clear hK KK
  try simp only [Act.put, List.getElem_toArray, List.getElem_cons_zero, List.getElem_cons_succ, List.setIfInBounds_toArray, List.set_cons_zero, List.set_cons_succ]
  refine wpAnyH_done (by kernel_rfl) ?_ _
  clear hHeld
  obtain ⟨⟨x0, x1, x2, x3, x4, x5, x6⟩, x7, x8, x9, x10, x11, x12, x13⟩ := rp_cellsL HP7.out
  obtain ⟨⟨z0, z1, z2, z3, z4, z5, z6⟩, z7, z8, z9, z10, z11, z12, z13⟩ := rp_cellsL HA7.out
  obtain ⟨⟨y0, y1, y2, y3, y4, y5, y6⟩, y7, y8, y9, y10, y11, y12, y14⟩ := hp_frL HA7.out
  simp only [Rq.none] at x7 x8 x9 x10 x11 x12
  clear s0 s1 s2 s3 s4 s5 e2 y13 f13
  go_wp2
  have HCA := keepG (Chg.sets W7 (n + 1) 0 (rpC ⟨(⟨tf, tt, true, (k : Int), top, tk, tz⟩ : Rt), Rq.none, (o.sl k).1⟩ (.slice ua (o.sl k).1.length uc)))
  have hxz : X.heap.size = n + 4 := by have := HBX.out.sz; have := HN.out; omega
  refine rp_ret1 rfl rfl (HA7.out.sets (rpC ⟨(⟨tf, tt, true, (k : Int), top, tk, tz⟩ : Rt), Rq.none, (o.sl k).1⟩ (.slice ua (o.sl k).1.length uc)) 0) ⟨_, rfl, F, ?_, ⟨?_, fun j hj => .inl hj⟩, ?_, ?_⟩
  · exact HL7.out.chg HCA.out (fun j e1 e2 => by have := HLW.out.lies j e2; have e3 : j = n + 1 := e1; have := HN.out; omega)
  · exact ((Chg.of_below (HBX.out.be.trans (HB6.out.mono HBX.out.be.size))).trans HC7.out (fun j h1 e => by have e3 : j = n + 3 := e; have := HN.out; omega)).trans HCA.out (fun j h1 e => by have e3 : j = n + 1 := e; have := HN.out; omega)
  · exact own_lowG (own_chg (own_chg HR6.out HC7.out (fun j hj e => by have := (HR6.out.lt j hj).1; have e3 : j = n + 3 := e; omega)) HCA.out (fun j hj e => by have := (HR6.out.lt j hj).1; have e3 : j = n + 1 := e; omega)) HBX.out.be.size
  · exact fun j e1 e2 => by have := HLW.out.lies j e1; have := (HR6.out.lt j e2).1; have := HBX.out.be.size; omega
set_option maxHeartbeats 12800000 in
theorem lreply_false (h : Lwo w B b rv lv vs F o) {k : Nat} (hk : k < vs.length) (hinv : InvSh (o.dl k).1 (o.dl k).2 (o.sl k)) (hcap : (o.dl k).2 ≤ 16) (hB : B ≤ w.heap.size) (tf tt top tk tz : Int) {p : Ry} {o' : On} (HS : Hid (o.serve ⟨tf, tt, false, (k : Int), top, tk, tz⟩ o.ln = (p, o'))) : Calls Try.prog 28 #[.pointer (some ⟨b, 0, none⟩), .agg #[.int .i64 tf, .int .i64 tt, .bool false, .int .i64 k, .int .i64 top, .int .u64 tk, .int .u64 tz]] w fun e w' => ∃ u, e = .returned (rpV p u) ∧ ∃ F', Lwo w' B b rv lv vs F' o' ∧ Nx w w' (footO b rv lv vs.length F) (footO b rv lv vs.length F') ∧ RoPp w' w.heap.size u p.ps ∧ Apt (footO b rv lv vs.length F') (ftV u) := by
  obtain ⟨X, HX, hbx⟩ := bx_new w tf tt false (k : Int) top tk tz
  have HBX := keepG hbx
  have HLW := keepG h
  obtain ⟨n, HN⟩ : ∃ n, Hid (w.heap.size = n) := ⟨_, rfl⟩
  have HLX := keepG (h.below hbx.be)
  have HLXd := keepG ((h.below hbx.be).below (below_drG (Below.refl X.heap.size X)))
  obtain ⟨g, cap, ev, hg, _⟩ := h.at hk
  subst ev
  obtain ⟨v, HV⟩ : ∃ v, Hid (vs.getD k .nilIface = v) := ⟨_, rfl⟩
  have HSS : Hid (∀ (wx : World) (F1 : Nat → Ft) (o1 : On), Lwo wx B b (.slice (some ⟨g, 0, none⟩) vs.length cap) lv vs F1 o1 → Hp wx (n + 2) 43 [.int .i64 k, .int .i64 top, .int .u64 tk, .int .u64 tz] → wx.cell? ⟨b, 2, none⟩ = some (.slice (some ⟨g, 0, none⟩) vs.length cap) ∧ wx.cell? ⟨n + 2, 0, none⟩ = some (.int .i64 k) ∧ wx.cell? ⟨g, k, none⟩ = some v ∧ wx.cell? ⟨n + 2, 1, none⟩ = some (.int .i64 top) ∧ wx.cell? ⟨n + 2, 2, none⟩ = some (.int .u64 tk) ∧ wx.cell? ⟨n + 2, 3, none⟩ = some (.int .u64 tz)) := by
    intro wx F1 o1 hl hp
    obtain ⟨g', cap', ev, _, d0⟩ := hl.at hk
    simp only [Value.slice.injEq, Option.some.injEq, Addr.mk.injEq, true_and, and_true] at ev
    obtain ⟨rfl, rfl⟩ := ev
    rw [HV.out] at d0
    exact ⟨hl.low.2.2.1, hp.cell (j := 0) rfl, d0, hp.cell (j := 1) rfl, hp.cell (j := 2) rfl, hp.cell (j := 3) rfl⟩
  rw [HN.out] at hg
  have e2 : X.cell? ⟨n, 2, none⟩ = some (.bool false) := by rw [← HN.out]; exact hbx.q.cell (j := 2) rfl
  have HPI : Hid (Hp X (n + 2) 43 [.int .i64 k, .int .i64 top, .int .u64 tk, .int .u64 tz]) := by rw [← HN.out]; exact hbx.i
  have HPR : Hid (Hp X (n + 3) 50 (rpC ⟨(⟨tf, tt, false, (k : Int), top, tk, tz⟩ : Rt), Rq.none, []⟩ (.slice none 0 0))) := by rw [← HN.out]; exact hbx.r
  have HPA : Hid (Hp X (n + 1) 50 (rpC Ry.nil (.slice none 0 0))) := by rw [← HN.out]; exact hbx.a
  obtain ⟨s0, s1, s2, s3, s4, s5⟩ := HSS.out X F o HLX.out HPI.out
  have hkI : (k : Int) < vs.length := by omega
  have HK := keepG hk
  have hs := HS.out
  obtain ⟨x, t5, HDD⟩ : ∃ x t5, Hid (doSh (o.dl k).1 (o.dl k).2 (o.sl k) top tk tz = (x, t5)) := ⟨_, _, rfl⟩
  obtain ⟨xE, xf, xv, xo, xk, xu⟩ := x
  rw [show o.serve (⟨tf, tt, false, (k : Int), top, tk, tz⟩ : Rt) o.ln = ((⟨(⟨tf, tt, false, (k : Int), top, tk, tz⟩ : Rt), ⟨xE, xf, xv, xo, xk, xu⟩, []⟩ : Ry), (⟨o.sh, o.n, o.ds, o.st.set k t5, o.ln, o.over⟩ : On)) by
    have hd : doSh (o.df (k : Int)).1 (o.df (k : Int)).2 (o.sr (k : Int)) top tk tz = (⟨xE, xf, xv, xo, xk, xu⟩, t5) := HDD.out
    unfold On.serve
    simp only [Bool.false_eq_true, if_false, hd]
    rfl] at hs
  injection hs with h1 h2
  subst h1 h2
  have hBX : B ≤ X.drew.heap.size := Nat.le_trans hB hbx.be.size
  obtain ⟨ff, fx, hvia, hcall⟩ := (HLXd.out.fam.ob k hk).do_any top tk tz hinv hcap hBX HDD
  obtain ⟨t, u, ev, hmeth, hcf⟩ := hvia
  rw [HV.out] at ev
  subst ev
  have HCD := keepG hcall
  have HFN : Hid (∀ j, F k j → j < w.heap.size) := h.fam.li k hk
  clear h hbx hcall hinv hcap hk hB HS hBX
  go_enter Try.func28, Try.ntmps28
  go_wp2_with (first | (rw [HX.out, HN.out]) | (refine wp_region_held_drew (S := fun w' => w'.cell? ⟨b, 2, none⟩ = some (.slice (some ⟨g, 0, none⟩) vs.length cap) ∧ w'.cell? ⟨n + 2, 0, none⟩ = some (.int .i64 k) ∧ w'.cell? ⟨g, k, none⟩ = some (.iface t u) ∧ w'.cell? ⟨n + 2, 1, none⟩ = some (.int .i64 top) ∧ w'.cell? ⟨n + 2, 2, none⟩ = some (.int .u64 tk) ∧ w'.cell? ⟨n + 2, 3, none⟩ = some (.int .u64 tz)) (by kernel_rfl) ⟨s0, s1, s2, s3, s4, s5⟩ (fun hHeld => ?_)))
  refine tkGo [0, 1, 2, 3, 4, 5, 6, 7, 8, 9, 10, 11, 12, 13] ?_
  repeat (refine tkOne (v := ?_) rfl (by kernel_rfl) (by kernel_rfl) (by kernel_rfl) (fun _ _ _ h => h) (by assumption) (by rfl) ?_ ?_; rotate_left; (intro wy hSw; (try dsimp only at hSw); go_simp; (first | done | with_reducible rfl)); try simp only [Act.put, List.getElem_toArray, List.getElem_cons_zero, List.getElem_cons_succ, List.setIfInBounds_toArray, List.set_cons_zero, List.set_cons_succ])
  refine tkEnd ?_
  refine wpAnyH_ready (rs := [14]) (by kernel_rfl) (by simp) ?_
  refine AllReadyH.cons rfl (fun KK hK => ?_) AllReadyH.nil
  rw [if_pos (by rfl)]
  go_simp
  refine HCD.out.mono ?_
  rintro e w6 ⟨rfl, F5, hS5, hn5⟩
  have HGO := keepG (HLXd.out.go HK.out hS5 hn5)
  have hcx : Chg X w6 (F k) := ⟨hn5.chg.os, hn5.chg.tape, hn5.chg.output, hn5.chg.size, hn5.chg.block⟩
  have HP6 := keepG (HPR.out.chg hcx (fun e => by have := HFN.out _ e; have := HN.out; omega))
  have HA6 := keepG (HPA.out.chg hcx (fun e => by have := HFN.out _ e; have := HN.out; omega))
  have HI6 := keepG (HPI.out.chg hcx (fun e => by have := HFN.out _ e; have := HN.out; omega))
  have HN5 := keepG hcx
  clear hS5 hn5 hcx
  dsimp only [resG]
  go_simp
  refine hK.out _ _ (HSS.out w6 _ _ HGO.out.1 HI6.out) (fun hHeld => ?_)
  clear hK KK
  try simp only [Act.put, List.getElem_toArray, List.getElem_cons_zero, List.getElem_cons_succ, List.setIfInBounds_toArray, List.set_cons_zero, List.set_cons_succ]
  have y7 := HP6.out.cell (j := 7) rfl
  have f7 := HP6.out.frozen 7
  have y8 := HP6.out.cell (j := 8) rfl
  have f8 := HP6.out.frozen 8
  have y9 := HP6.out.cell (j := 9) rfl
  have f9 := HP6.out.frozen 9
  have y10 := HP6.out.cell (j := 10) rfl
  have f10 := HP6.out.frozen 10
  have y11 := HP6.out.cell (j := 11) rfl
  have f11 := HP6.out.frozen 11
  have y12 := HP6.out.cell (j := 12) rfl
  have f12 := HP6.out.frozen 12
  have hft : ∀ j, footO b (.slice (some ⟨g, 0, none⟩) vs.length cap) lv vs.length (upd F k F5) j → j < w.heap.size ∨ X.heap.size ≤ j := fun j hj => by
    rcases HGO.out.2.new j hj with g1 | g1
    · exact .inl (HLW.out.lies j g1)
    · exact .inr g1
  have HFT := keepG hft
  have hxz : X.heap.size = n + 4 := by have := HBX.out.sz; have := HN.out; omega
  obtain ⟨W7, HW7, HP7, HA7, HI7, HL7, HC7⟩ : ∃ W7, Hid (((((((w6.setCell ⟨n + 3, 7, none⟩ (.int .i64 xE)).setCell ⟨n + 3, 8, none⟩ (.bool xf)).setCell ⟨n + 3, 9, none⟩ (.int .u64 xv)).setCell ⟨n + 3, 10, none⟩ (.bool xo)).setCell ⟨n + 3, 11, none⟩ (.int .u64 xk)).setCell ⟨n + 3, 12, none⟩ (.int .u64 xu)) = W7) ∧ Hid (Hp W7 (n + 3) 50 (rpC (⟨(⟨tf, tt, false, (k : Int), top, tk, tz⟩ : Rt), ⟨xE, xf, xv, xo, xk, xu⟩, []⟩ : Ry) (.slice none 0 0))) ∧ Hid (Hp W7 (n + 1) 50 (rpC Ry.nil (.slice none 0 0))) ∧ Hid (Hp W7 (n + 2) 43 [.int .i64 k, .int .i64 top, .int .u64 tk, .int .u64 tz]) ∧ Hid (Lwo W7 B b (.slice (some ⟨g, 0, none⟩) vs.length cap) lv vs (upd F k F5) (⟨o.sh, o.n, o.ds, o.st.set k t5, o.ln, o.over⟩ : On)) ∧ Hid (Chg w6 W7 (fun j => j = n + 3)) := ⟨_, rfl, HP6.out.sets [.int .i64 xE, .bool xf, .int .u64 xv, .bool xo, .int .u64 xk, .int .u64 xu] 7, HA6.out.fars (show n + 1 ≠ n + 3 by omega) [.int .i64 xE, .bool xf, .int .u64 xv, .bool xo, .int .u64 xk, .int .u64 xu] 7, HI6.out.fars (show n + 2 ≠ n + 3 by omega) [.int .i64 xE, .bool xf, .int .u64 xv, .bool xo, .int .u64 xk, .int .u64 xu] 7, HGO.out.1.chg (Chg.sets w6 (n + 3) 7 [.int .i64 xE, .bool xf, .int .u64 xv, .bool xo, .int .u64 xk, .int .u64 xu]) (fun j e1 e2 => by have e3 : j = n + 3 := e1; have := HN.out; rcases HFT.out j e2 with g1 | g1 <;> omega), Chg.sets w6 (n + 3) 7 [.int .i64 xE, .bool xf, .int .u64 xv, .bool xo, .int .u64 xk, .int .u64 xu]⟩
  clear hft
  refine tkGo [15] ?_
  repeat (refine tkOne (v := ?_) rfl (by kernel_rfl) (by kernel_rfl) (by kernel_rfl) (fun _ _ _ h => h) (by assumption) (by rfl) ?_ ?_; rotate_left; (intro wy hSw; (try dsimp only at hSw); go_simp; (first | done | with_reducible rfl)); try simp only [Act.put, List.getElem_toArray, List.getElem_cons_zero, List.getElem_cons_succ, List.setIfInBounds_toArray, List.set_cons_zero, List.set_cons_succ])
  refine tkEnd ?_
  refine wpAnyH_ready (rs := [16]) (by kernel_rfl) (by simp) ?_
  refine AllReadyH.cons rfl (fun KK hK => ?_) AllReadyH.nil
  rw [if_pos (by rfl)]
  go_simp
  rw [HW7.out]
  refine hK.out _ _ (HSS.out W7 _ _ HL7.out HI7.out) (fun hHeld => ?_)
  clear hK KK
  try simp only [Act.put, List.getElem_toArray, List.getElem_cons_zero, List.getElem_cons_succ, List.setIfInBounds_toArray, List.set_cons_zero, List.set_cons_succ]
  refine wpAnyH_done (by kernel_rfl) ?_ _
  clear hHeld y7 y8 y9 y10 y11 y12 f7 f8 f9 f10 f11 f12
  obtain ⟨⟨x0, x1, x2, x3, x4, x5, x6⟩, x7, x8, x9, x10, x11, x12, x13⟩ := rp_cellsL HP7.out
  obtain ⟨⟨z0, z1, z2, z3, z4, z5, z6⟩, z7, z8, z9, z10, z11, z12, z13⟩ := rp_cellsL HA7.out
  obtain ⟨⟨y0, y1, y2, y3, y4, y5, y6⟩, y7, y8, y9, y10, y11, y12, y14⟩ := hp_frL HA7.out
  clear s0 s1 s2 s3 s4 s5 e2
  go_wp2
  have HCA := keepG (Chg.sets W7 (n + 1) 0 (rpC (⟨(⟨tf, tt, false, (k : Int), top, tk, tz⟩ : Rt), ⟨xE, xf, xv, xo, xk, xu⟩, []⟩ : Ry) (.slice none 0 0)))
  refine rp_ret1 rfl rfl (HA7.out.sets (rpC (⟨(⟨tf, tt, false, (k : Int), top, tk, tz⟩ : Rt), ⟨xE, xf, xv, xo, xk, xu⟩, []⟩ : Ry) (.slice none 0 0)) 0) ⟨_, rfl, upd F k F5, ?_, ⟨?_, fun j hj => ?_⟩, World.ownsRow_nil _ _ _ _, fun j e1 e2 => by cases e2⟩
  · exact HL7.out.chg HCA.out (fun j e1 e2 => by have e3 : j = n + 1 := e1; have := HN.out; rcases HFT.out j e2 with g1 | g1 <;> omega)
  · exact (((Chg.of_below HBX.out.be).trans (HN5.out.mono (T := footO b (.slice (some ⟨g, 0, none⟩) vs.length cap) lv vs.length F) (fun j e => .inr (.inr ⟨k, HK.out, e⟩))) (fun _ _ e => e)).trans HC7.out (fun j h1 e => by have e3 : j = n + 3 := e; have := HN.out; omega)).trans HCA.out (fun j h1 e => by have e3 : j = n + 1 := e; have := HN.out; omega)
  · rcases HGO.out.2.new j hj with g1 | g1
    · exact .inl g1
    · exact .inr (Nat.le_trans HBX.out.be.size g1)
end
end Go.Proofs.Ytpbfgebecgikjaa
namespace Go.Proofs.Ytpbfgebecgikjaa
open Go.RowKit
set_option linter.unusedVariables false
set_option linter.unusedSimpArgs false
set_option maxRecDepth 100000
theorem sizeRt (w : World) : (Go.sizeOf 45).run Try.prog w = .ok 7 w := by kernel_rfl
section
variable {w w' w2 : World} {B b : Nat} {rv lv lv2 : Value} {vs : List Value} {F : Nat → Ft} {o o' : On} {l : List Rt}
theorem lreply (h : Lwo w B b rv lv vs F o) {k : Nat} (hk : k < vs.length) (hinv : InvSh (o.dl k).1 (o.dl k).2 (o.sl k)) (hcap : (o.dl k).2 ≤ 16) (hB : B ≤ w.heap.size) (tf tt : Int) (wk : Bool) (top tk tz : Int) {p : Ry} {o' : On} (HS : Hid (o.serve ⟨tf, tt, wk, (k : Int), top, tk, tz⟩ o.ln = (p, o'))) : Calls Try.prog 28 #[.pointer (some ⟨b, 0, none⟩), .agg #[.int .i64 tf, .int .i64 tt, .bool wk, .int .i64 k, .int .i64 top, .int .u64 tk, .int .u64 tz]] w fun e w' => ∃ u, e = .returned (rpV p u) ∧ ∃ F', Lwo w' B b rv lv vs F' o' ∧ Nx w w' (footO b rv lv vs.length F) (footO b rv lv vs.length F') ∧ RoPp w' w.heap.size u p.ps ∧ Apt (footO b rv lv vs.length F') (ftV u) := by
  cases wk with
  | true => exact lreply_true h hk hinv hcap hB tf tt top tk tz HS
  | false => exact lreply_false h hk hinv hcap hB tf tt top tk tz HS
set_option maxHeartbeats 12800000 in
theorem lstep_none (h : Lwo w B b rv lv vs F o) (hl : o.ln = []) : Calls Try.prog 13 #[.pointer (some ⟨b, 0, none⟩)] w fun e w' => e = .returned (.tuple #[rpV Ry.nil (.slice none 0 0), .bool false]) ∧ Lwo w' B b rv lv vs F o ∧ Below w.heap.size w w' := by
  obtain ⟨X, HX, HPX, HBX⟩ : ∃ X, Hid (w.alloc (.cells #[.int .i64 0, .int .i64 0, .bool false, .int .i64 0, .int .i64 0, .int .u64 0, .int .u64 0, .int .i64 0, .bool false, .int .u64 0, .bool false, .int .u64 0, .int .u64 0, .slice none 0 0] 50) = X) ∧ Hid (Hp X w.heap.size 50 (rpC Ry.nil (.slice none 0 0))) ∧ Hid (Below w.heap.size w X) := ⟨_, rfl, Hp.new w (rpC Ry.nil (.slice none 0 0)) _, below_allocG _ _⟩
  have HD := keepG (h.below HBX.out)
  have HDW := keepG h
  obtain ⟨-, -, -, c3, -⟩ := HD.out.low
  obtain ⟨a, cap, ev, -, -⟩ := h.ln.shape
  rw [hl] at ev
  obtain rfl : lv = .slice a 0 cap := ev
  obtain ⟨nx, HNX⟩ : ∃ nx, Hid (w.heap.size = nx) := ⟨_, rfl⟩
  have HPN := HPX
  rw [HNX.out] at HPN
  obtain ⟨⟨x0, x1, x2, x3, x4, x5, x6⟩, x7, x8, x9, x10, x11, x12, x13⟩ := rp_cellsL HPN.out
  obtain ⟨⟨y0, y1, y2, y3, y4, y5, y6⟩, y7, y8, y9, y10, y11, y12, y13⟩ := hp_frL HPN.out
  have hnx : w.heap.size ≤ nx := Nat.le_of_eq HNX.out
  clear h hl
  go_enter Try.func13, Try.ntmps13
  go_wp2_with (rw [HX.out, HNX.out])
  exact rp_ret rfl rfl rfl (HPN.out.sets (rpC Ry.nil (.slice none 0 0)) 0) ⟨rfl, HD.out.chg (Chg.sets X nx 0 (rpC Ry.nil (.slice none 0 0))) (fun k e1 e2 => by have := HDW.out.lies k e2; have e3 : k = nx := e1; omega), HBX.out.trans (grown_to_below (grown_sets nx (rpC Ry.nil (.slice none 0 0)) X 0) hnx HBX.out.size)⟩
set_option maxHeartbeats 12800000 in
theorem lstep_some (h : Lwo w B b rv lv vs F o) (hk : o.Ok) (hB : B ≤ w.heap.size) {q : Rt} {r : List Rt} (hl : o.ln = q :: r) {p : Ry} {o' : On} (HS : Hid (o.serve q r = (p, o'))) : Calls Try.prog 13 #[.pointer (some ⟨b, 0, none⟩)] w fun e w' => ∃ u, e = .returned (.tuple #[rpV p u, .bool true]) ∧ ∃ lv' F', Lwo w' B b rv lv' vs F' o' ∧ Nx w w' (footO b rv lv vs.length F) (footO b rv lv' vs.length F') ∧ RoPp w' w.heap.size u p.ps ∧ Apt (footO b rv lv' vs.length F') (ftV u) := by
  obtain ⟨X, HX, HPX, HBX, HZX⟩ : ∃ X, Hid (w.alloc (.cells #[.int .i64 0, .int .i64 0, .bool false, .int .i64 0, .int .i64 0, .int .u64 0, .int .u64 0, .int .i64 0, .bool false, .int .u64 0, .bool false, .int .u64 0, .int .u64 0, .slice none 0 0] 50) = X) ∧ Hid (Hp X w.heap.size 50 (rpC Ry.nil (.slice none 0 0))) ∧ Hid (Below w.heap.size w X) ∧ Hid (X.heap.size = w.heap.size + 1) := ⟨_, rfl, Hp.new w (rpC Ry.nil (.slice none 0 0)) _, below_allocG _ _, by show _ = _; simp⟩
  have HLW := keepG h
  have HLX := keepG (h.below HBX.out)
  obtain ⟨n, HN⟩ : ∃ n, Hid (w.heap.size = n) := ⟨_, rfl⟩
  rw [HN.out] at HPX
  have htk := hk.line q (by rw [hl]; simp)
  obtain ⟨k, hqm, hks⟩ := On.hasM_nat (On.takes_m htk)
  have hkv : k < vs.length := by rw [h.len]; exact hks
  have hinv := hk.inv k (by rw [← hk.len]; exact hks)
  have hN : o.ln.length = r.length + 1 := by rw [hl]; rfl
  have hwin := HLX.out.ln
  obtain ⟨a, cap, ev, -, -⟩ := h.ln.shape
  subst ev
  obtain ⟨pp, off, ev, hat⟩ := rtAt (hwin.sees rtC_len Rt.nil) (j := 0) (by omega)
  subst ev
  obtain ⟨d0, d1, d2, d3, d4, d5, d6⟩ := hat 0 (by omega) q (by rw [hl]; rfl)
  obtain ⟨tf, tt, wk, tm, top, tk, tz⟩ := q
  simp only at hqm d0 d1 d2 d3 d4 d5 d6
  subst hqm
  simp only [Nat.zero_mul, Nat.add_zero] at d0 d1 d2 d3 d4 d5 d6
  obtain ⟨-, -, -, c3, -⟩ := HLX.out.low
  obtain ⟨Y, HY, HPY, HPQ, HLY, HBY⟩ : ∃ Y, Hid (X.alloc (.cells #[.int .i64 tf, .int .i64 tt, .bool wk, .int .i64 k, .int .i64 top, .int .u64 tk, .int .u64 tz] 45) = Y) ∧ Hid (Hp Y n 50 (rpC Ry.nil (.slice none 0 0))) ∧ Hid (Hp Y (n + 1) 45 (rtC ⟨tf, tt, wk, (k : Int), top, tk, tz⟩)) ∧ Hid (Lwo Y B b rv (.slice (some ⟨pp, off, none⟩) o.ln.length cap) vs F o) ∧ Hid (Below w.heap.size w Y) := ⟨_, rfl, HPX.out.alloc _, by have := Hp.new X (rtC ⟨tf, tt, wk, (k : Int), top, tk, tz⟩) 45; rw [HZX.out, HN.out] at this; exact this, HLX.out.below (below_allocG X _), HBX.out.trans ((below_allocG X _).mono HBX.out.size)⟩
  have hwY := HLY.out.ln
  have e7 : flatG rtC o.ln = rtC ⟨tf, tt, wk, (k : Int), top, tk, tz⟩ ++ flatG rtC r := by rw [hl]; simp [flatG]
  rw [e7] at hwY
  obtain ⟨N, HNN⟩ : ∃ N, Hid (o.ln.length = N) := ⟨_, rfl⟩
  have hNI : ¬ (N : Int) = 0 := by have := HNN.out; omega
  have hNb : ((N : Int) == 0) = false := by simpa using hNI
  have hN0 : (0 : Int) < N := by have := HNN.out; omega
  obtain ⟨v', hcut, hwt, hob⟩ := Win.tail (P := Try.prog) (t := 34) (n := r.length) Try.underlying34 sizeRt (by rw [← hN]; exact hwY) (rtC_len _)
  have hput := HLY.out.put (Chg.refl _ _) hwt (.inl hob)
  obtain ⟨va, vc, ev, -, -⟩ := hwt.shape
  subst ev
  have c3Y := HLY.out.low.2.2.2.1
  have f3Y := HLY.out.hp.frozen 3
  rw [HNN.out] at c3 c3Y hcut
  obtain ⟨Z, HZ, HLZ, HPZ, HQZ, HNZ⟩ : ∃ Z, Hid (Y.setCell ⟨b, 3, none⟩ (.slice va r.length vc) = Z) ∧ Hid (Lwo Z B b rv (.slice va r.length vc) vs F (o.line r)) ∧ Hid (Hp Z n 50 (rpC Ry.nil (.slice none 0 0))) ∧ Hid (Hp Z (n + 1) 45 (rtC ⟨tf, tt, wk, (k : Int), top, tk, tz⟩)) ∧ Hid (Nx w Z (footO b rv (.slice (some ⟨pp, off, none⟩) o.ln.length cap) vs.length F) (footO b rv (.slice va r.length vc) vs.length F)) := by
    have hb := HLW.out.hp.lt
    have hxx := HN.out
    exact ⟨_, rfl, hput.1, HPY.out.far (by omega), HPQ.out.far (by omega), (Nx.below HBY.out).trans hput.2⟩
  have HCR := keepG (lreply HLZ.out hkv (show InvSh (o.dl k).1 (o.dl k).2 (o.sl k) from hinv.1) (show (o.dl k).2 ≤ 16 from hinv.2) (Nat.le_trans hB HNZ.out.chg.size) tf tt wk top tk tz (p := p) (o' := o') HS)
  have HFT : Hid (∀ j, footO b rv (.slice va r.length vc) vs.length F j → j < n) := by
    intro j hj
    rw [← HN.out]
    rcases hj with g | g | g
    · exact HLW.out.lies j (.inl g)
    · exact HLW.out.lies j (.inr (.inl (by rw [← hob]; exact g)))
    · exact HLW.out.lies j (.inr (.inr g))
  have u0 : Z.cell? ⟨n + 1, 0, none⟩ = some (.int .i64 tf) := HQZ.out.cell (j := 0) rfl
  have u1 : Z.cell? ⟨n + 1, 1, none⟩ = some (.int .i64 tt) := HQZ.out.cell (j := 1) rfl
  have u2 : Z.cell? ⟨n + 1, 2, none⟩ = some (.bool wk) := HQZ.out.cell (j := 2) rfl
  have u3 : Z.cell? ⟨n + 1, 3, none⟩ = some (.int .i64 k) := HQZ.out.cell (j := 3) rfl
  have u4 : Z.cell? ⟨n + 1, 4, none⟩ = some (.int .i64 top) := HQZ.out.cell (j := 4) rfl
  have u5 : Z.cell? ⟨n + 1, 5, none⟩ = some (.int .u64 tk) := HQZ.out.cell (j := 5) rfl
  have u6 : Z.cell? ⟨n + 1, 6, none⟩ = some (.int .u64 tz) := HQZ.out.cell (j := 6) rfl
  have HZX2 : Hid (X.heap.size = n + 1) := by show _ = _; rw [HZX.out, HN.out]
  obtain ⟨⟨pf, pt, pwk, pm, pop, pk, pv⟩, ⟨xE, xf, xv, xo, xk, xu⟩, pps⟩ := p
  clear h hk hB hl HS htk hks hkv hinv hN hwin hat hwY e7 hwt hob hput
  go_enter Try.func13, Try.ntmps13
  go_wp2_with (first
    | (go_at_call 28; go_must (refine HCR.out.mono ?_); rintro e w6 ⟨u, rfl, F6, hl6, hn6, hr6, ha6⟩; go_must (obtain ⟨ua, uc, ev⟩ := own_shape hr6; subst ev; have HL6 := keepG hl6; have HN6 := keepG hn6; have HR6 := keepG hr6; have HA6 := keepG ha6; have HP6 := keepG (HPZ.out.chg hn6.chg (fun e => by have := HFT.out _ e; omega)); clear hl6 hn6 hr6 ha6; obtain ⟨⟨x0, x1, x2, x3, x4, x5, x6⟩, x7, x8, x9, x10, x11, x12, x13⟩ := rp_cellsL HP6.out; obtain ⟨⟨y0, y1, y2, y3, y4, y5, y6⟩, y7, y8, y9, y10, y11, y12, y13⟩ := hp_frL HP6.out; dsimp only [rpV, rpC] at *))
    | (rw [HX.out, HN.out])
    | (rw [HY.out, HZX2.out])
    | (rw [HZ.out]))
  have HCA := keepG (Chg.sets w6 n 0 (rpC (⟨⟨pf, pt, pwk, pm, pop, pk, pv⟩, ⟨xE, xf, xv, xo, xk, xu⟩, pps⟩ : Ry) (.slice ua pps.length uc)))
  refine rp_ret rfl rfl rfl (HP6.out.sets (rpC (⟨⟨pf, pt, pwk, pm, pop, pk, pv⟩, ⟨xE, xf, xv, xo, xk, xu⟩, pps⟩ : Ry) (.slice ua pps.length uc)) 0) ⟨_, rfl, _, F6, ?_, ⟨?_, fun j hj => ?_⟩, ?_, HA6.out⟩
  · refine HL6.out.chg HCA.out (fun j e1 e2 => ?_)
    have e3 : j = n := e1
    have hz := HPZ.out.lt
    rcases HN6.out.new j e2 with g | g
    · have := HFT.out j g; omega
    · omega
  · exact (HNZ.out.trans HN6.out).chg.trans HCA.out (fun j h1 e => by have e3 : j = n := e; have := HN.out; omega)
  · exact (HNZ.out.trans HN6.out).new j hj
  · exact own_lowG (own_chg HR6.out HCA.out (fun j hj e => by have := (HR6.out.lt j hj).1; have e3 : j = n := e; have := HPZ.out.lt; omega)) HNZ.out.chg.size
end
end Go.Proofs.Ytpbfgebecgikjaa
namespace Go.Proofs.Ytpbfgebecgikjaa
open Go.RowKit
set_option linter.unusedVariables false
set_option linter.unusedSimpArgs false
set_option maxRecDepth 100000
theorem dfCAt {w : World} {a : Option Addr} {n cap : Nat} {l : List (Int × Int)} (h : SeesG dfC 2 (0, 0) w (.slice a n cap) l) {j : Nat} (hj : j < l.length) : ∃ p off, a = some ⟨p, off, none⟩ ∧ w.cell? ⟨p, off + j * 2, none⟩ = some (.int .i64 (l.getD j (0, 0)).1) ∧ w.cell? ⟨p, off + j * 2 + 1, none⟩ = some (.int .i64 (l.getD j (0, 0)).2) := by
  obtain ⟨a', cap', ev, _, _, _, hat⟩ := h
  simp only [Value.slice.injEq] at ev
  obtain ⟨rfl, _, rfl⟩ := ev
  obtain ⟨p, off, rfl, _, hc⟩ := hat (fun e => by rw [e] at hj; simp at hj)
  exact ⟨p, off, rfl, hc j hj 0 (by omega), hc j hj 1 (by omega)⟩
/-- The landed owner in the making: so many shards. -/
structure Lnw (w0 w : World) (b : Nat) (vm : Value) (ps : List Value) (ds : List Df) (F : Nat → Ft) (s n : Int) : Prop where
  hp : Hp w b 83 [.int .i64 s, .int .i64 n, vm, .slice none 0 0, .bool false]
  maps : w.ownsRow w0.heap.size 69 1 vm ps.length (flatG ifC ps)
  fam : Fam (fun w i G => Sh w w0.heap.size (ps.getD i .nilIface) (ds.getD i (false, 0)).1 (ds.getD i (false, 0)).2 Sr.nil G) w ps.length F
  since : ∀ i, i < ps.length → Since w0 (F i)
  be : Below w0.heap.size w0 w
  here : w0.heap.size ≤ b
section
variable {w0 w w1 w2 : World} {b : Nat} {vm vm2 : Value} {ps : List Value} {ds : List Df} {F : Nat → Ft} {s n : Int}
theorem Lnw.below (h : Lnw w0 w b vm ps ds F s n) (hb : Below w.heap.size w w1) : Lnw w0 w1 b vm ps ds F s n :=
  ⟨h.hp.below hb h.hp.lt, own_below h.maps hb (Nat.le_refl _), h.fam.keeps (Chg.of_below (S := fun _ => False) hb) (fun j hj g => g.below hb), h.since, h.be.trans (hb.mono h.be.size), h.here⟩
theorem Lnw.nb (h : Lnw w0 w b vm ps ds F s n) : ¬ unF ps.length F b := by
  rintro ⟨i, hi, e⟩
  exact (h.fam.ob i hi).other h.hp (by decide) (by decide) (by decide) (by decide) e
theorem Lnw.nrow (h : Lnw w0 w b vm ps ds F s n) : ∀ k, vm.ownBlock = some k → ¬ unF ps.length F k := by
  rintro k hk ⟨i, hi, e⟩
  obtain ⟨cs, hq⟩ := own_hpC h.maps hk
  exact (h.fam.ob i hi).other hq (by decide) (by decide) (by decide) (by decide) e
/-- One more shard: made, laid at the row's end, the row put into its place. -/
theorem Lnw.more (h : Lnw w0 w b vm ps ds F s n) {p : Value} {G : Ft} {o : Obj} (hb : Below w.heap.size w w1) (hs : Sh w1 w.heap.size p (ds.getD ps.length (false, 0)).1 (ds.getD ps.length (false, 0)).2 Sr.nil G) (hG : Since w G) (hown : w2.ownsRow w0.heap.size 69 1 vm2 (ps.length + 1) (flatG ifC ps ++ ifC p)) (hgr : (w1.alloc o).grownBy w2 vm.ownBlock) : Lnw w0 (w2.setCell ⟨b, 2, none⟩ vm2) b vm2 (ps ++ [p]) ds (upd F ps.length G) s n := by
  have hc1 : Chg w1 w2 (fun k => vm.ownBlock = some k) := chg_append hgr
  have hbz := h.hp.lt
  have n0 : ¬ vm.ownBlock = some b := own_type10 h.maps h.hp (by decide)
  have hp1 : Hp w2 b 83 [.int .i64 s, .int .i64 n, vm, .slice none 0 0, .bool false] := (h.hp.below hb h.hp.lt).chg hc1 n0
  have hcs := Chg.set w2 b 2 vm2
  have hl : (ps ++ [p]).length = ps.length + 1 := by simp
  have hmG : Apt (fun k => vm.ownBlock = some k) G := fun k e1 e2 => by have := (h.maps.lt k e1).2; have := hG k e2; omega
  have hbG : ¬ G b := fun e => by have := hG b e; omega
  have hc : Chg w (w2.setCell ⟨b, 2, none⟩ vm2) (fun k => k = b ∨ vm.ownBlock = some k) := ((Chg.of_below hb).trans (hc1.mono (fun k e => .inr e)) (fun _ _ e => e)).trans (hcs.mono (fun k e => .inl e)) (fun _ _ e => e)
  have hgo : ∀ j, j < ps.length → Apt (fun k => k = b ∨ vm.ownBlock = some k) (F j) := fun j hj k e1 e2 => by
    rcases e1 with e | e
    · subst e; exact h.nb ⟨j, hj, e2⟩
    · exact h.nrow k e ⟨j, hj, e2⟩
  have hG2 : Sh (w2.setCell ⟨b, 2, none⟩ vm2) w0.heap.size p (ds.getD ps.length (false, 0)).1 (ds.getD ps.length (false, 0)).2 Sr.nil G := ((hs.low h.be.size).keeps hc1 hmG).keeps hcs (fun k e1 e2 => by have e3 : k = b := e1; subst e3; exact hbG e2)
  refine ⟨hp1.set 2 vm2, ?_, ?_, fun i hi => ?_, ?_, h.here⟩
  · rw [hl, flatG_more]
    exact own_chg hown hcs (fun k hk e => by subst e; exact own_type10 hown hp1 (by decide) hk)
  · rw [hl]
    refine Fam.more (P := fun w i G => Sh w w0.heap.size (ps.getD i .nilIface) (ds.getD i (false, 0)).1 (ds.getD i (false, 0)).2 Sr.nil G) h.fam hc.size hG hG2.lies ?_ (fun j hj hd => ?_)
    · show Sh _ w0.heap.size ((ps ++ [p]).getD ps.length .nilIface) _ _ Sr.nil G
      rw [show (ps ++ [p]).getD ps.length .nilIface = p by simp]
      exact hG2
    · show Sh _ w0.heap.size ((ps ++ [p]).getD j .nilIface) _ _ Sr.nil (F j)
      rw [show (ps ++ [p]).getD j .nilIface = ps.getD j .nilIface by simp [List.getElem?_append_left hj]]
      exact hd.keeps hc (hgo j hj)
  · by_cases e : i = ps.length
    · subst e
      rw [upd_same]
      exact fun k hk => Nat.le_trans h.be.size (hG k hk)
    · rw [upd_other F G e]
      exact h.since i (by omega)
  · exact h.be.trans (hc.below (fun k e => by rcases e with e | e; exact (show k = b from e) ▸ h.here; exact (h.maps.lt k e).1) h.be.size)
end
set_option maxHeartbeats 6400000 in
theorem lonew_no (sh n : Int) {v : Value} {es : List (Int × Int)} (w : World) (hs : SeesG dfC 2 (0, 0) w v es) (HN : Hid (newO sh n es = none)) : Calls Try.prog 8 #[.int .i64 sh, .int .i64 n, v] w fun e w' => e = .returned (.tuple #[.pointer none, .int .i64 2]) ∧ Below w.heap.size w w' := by
  have HSB := keepG (fun (wr : World) (hb : Below w.heap.size w wr) => hs.below hb (Nat.le_refl _))
  obtain ⟨a, cap, ev, hlc, hmx⟩ := hs.shape
  subst ev
  obtain ⟨i0, hi0, hz0, hzs, hzb⟩ := info_parts infoIf
  have hn := HN.out
  unfold newO at hn
  clear hs
  go_enter Try.func8, Try.ntmps8
  by_cases hbad : n < 1 ∨ 4 < n ∨ sh < 0 ∨ n ≤ sh ∨ 4 < es.length
  · have h5 : n < 1 ∨ (¬ n < 1 ∧ 4 < n) ∨ (¬ n < 1 ∧ ¬ 4 < n ∧ sh < 0) ∨ (¬ n < 1 ∧ ¬ 4 < n ∧ ¬ sh < 0 ∧ n ≤ sh) ∨ (¬ n < 1 ∧ ¬ 4 < n ∧ ¬ sh < 0 ∧ ¬ n ≤ sh ∧ (4 : Int) < es.length) := by omega
    clear hbad hn HN
    rcases h5 with h | ⟨h1, h⟩ | ⟨h1, h2, h⟩ | ⟨h1, h2, h3, h⟩ | ⟨h1, h2, h3, h4, h⟩
    all_goals
      go_wp2
      go_ret2
      exact ⟨rfl, Below.refl _ _⟩
  · rw [if_neg hbad] at hn
    have hes : es.length ≤ 4 := by omega
    have g1 : ¬ n < 1 := by omega
    have g2 : ¬ 4 < n := by omega
    have g3 : ¬ sh < 0 := by omega
    have g4 : ¬ n ≤ sh := by omega
    have g5 : ¬ (4 : Int) < es.length := by omega
    obtain ⟨X, HX, HDX⟩ : ∃ X, Hid (w.alloc (.cells #[.int .i64 sh, .int .i64 n, .slice none 0 0, .slice none 0 0, .bool false] 83) = X) ∧ Hid (∀ ds, Lnw w X w.heap.size (.slice none 0 0) [] ds (fun _ _ => False) sh n) := ⟨_, rfl, fun ds => ⟨Hp.new w _ _, World.ownsRow_nil _ _ _ _, Fam.nil, fun i hi => by simp at hi, below_allocG _ _, Nat.le_refl _⟩⟩
    obtain ⟨nb, HNB⟩ : ∃ nb, Hid (w.heap.size = nb) := ⟨_, rfl⟩
    rw [HNB.out] at HDX
    have hnone : allDf es = none := by
      cases h : allDf es with
      | none => rfl
      | some d => rw [h] at hn; cases hn
    obtain ⟨ib, hib, hbad1, hgood⟩ := allDf_none hnone
    have HBAD := keepG (mkDf_none hbad1)
    obtain ⟨DS, hDS⟩ : ∃ DS : List Df, ∀ j, j < ib → mkDf (es.getD j (0, 0)) = some (DS.getD j (false, 0)) := ⟨(List.range ib).map (fun j => (mkDf (es.getD j (0, 0))).getD (false, 0)), fun j hj => by
      obtain ⟨d, hd⟩ := hgood j hj
      have e : ((List.range ib).map (fun j => (mkDf (es.getD j (0, 0))).getD (false, 0))).getD j (false, 0) = (mkDf (es.getD j (0, 0))).getD (false, 0) := by rw [List.getD_eq_getElem?_getD, List.getElem?_map, List.getElem?_range hj]; rfl
      rw [e, hd]; rfl⟩
    have HDS := keepG hDS
    have HGD := keepG hgood
    clear hbad hn HN hnone hbad1 hgood
    go_wp2_with (rw [HX.out, HNB.out])
    go_loopw [39] (fun i wr => ∃ (j : Nat) (vm : Value) (ps : List Value) (F : Nat → Ft), j ≤ ib ∧ i = .int .i64 j ∧ ps.length = j ∧ Hid (Lnw w wr nb vm ps DS F sh n)) (fun i _ => es.length - (intOf i).toNat)
    case atStart => exact ⟨0, _, [], _, by omega, rfl, rfl, HDX.out _⟩
    case round =>
      clear HDX
      obtain ⟨j, vm, ps, F, hj, rfl, hpl, HD⟩ := hrel
      rename World => wr
      have hlt : j < es.length := by omega
      have hltI : (j : Int) < es.length := by omega
      obtain ⟨p, off, ev, d0, d1⟩ := dfCAt (HSB.out wr HD.out.be) hlt
      subst ev
      by_cases hji : j = ib
      · subst hji
        obtain ⟨V, HV, HBV⟩ : ∃ V, Hid (wr.alloc (.cells #[.int .i64 (es.getD j (0, 0)).1, .int .i64 (es.getD j (0, 0)).2] 74) = V) ∧ Hid (Below wr.heap.size wr V) := ⟨_, rfl, below_allocG _ _⟩
        have HNO := keepG (lmake_no (es.getD j (0, 0)).1 (es.getD j (0, 0)).2 HBAD.out V)
        generalize (es.getD j (0, 0)).1 = kk at *
        generalize (es.getD j (0, 0)).2 = cc at *
        go_wp2_with (go_at_call 23; rw [HV.out]; go_must (refine HNO.out.mono ?_); rintro e w1 ⟨rfl, hb1⟩; go_must (have HB1 := keepG ((HD.out.be.trans (HBV.out.mono HD.out.be.size)).trans (hb1.mono (Nat.le_trans HD.out.be.size HBV.out.size))); clear hb1))
        go_ret2
        exact ⟨rfl, HB1.out⟩
      · have hd := HDS.out j (by omega)
        obtain ⟨d, HDJ⟩ : ∃ d, Hid (DS.getD j (false, 0) = d) := ⟨_, rfl⟩
        rw [HDJ.out] at hd
        obtain ⟨e1, e2, e3, e4⟩ := mkDf_some hd
        rw [e1] at d0
        rw [e2] at d1
        obtain ⟨kk, HKK⟩ : ∃ kk : Int, Hid ((if d.1 = true then (1 : Int) else 0) = kk) := ⟨_, rfl⟩
        rw [HKK.out] at d0
        obtain ⟨V, HV, HBV⟩ : ∃ V, Hid (wr.alloc (.cells #[.int .i64 kk, .int .i64 d.2] 74) = V) ∧ Hid (Below wr.heap.size wr V) := ⟨_, rfl, below_allocG _ _⟩
        have hmk := lmake_ok d.1 d.2 e3 e4 V
        rw [HKK.out] at hmk
        have HMK := keepG hmk
        have HDP : Hid (DS.getD ps.length (false, 0) = d) := by show _ = _; rw [hpl]; exact HDJ.out
        obtain ⟨pa, pc, ev⟩ := own_shape HD.out.maps
        subst ev
        have hpb : ps.length ≤ 4 := by omega
        have HPL := keepG hpl
        clear hpl hmk
        go_wp2_with (first
          | (go_at_call 23; rw [HV.out]; go_must (refine HMK.out.mono ?_); rintro e w1 ⟨q, G, rfl, hS, hG, hb1⟩; go_must (obtain ⟨tt, uu, rfl⟩ := hS.shape; have hone : ∀ u ∈ ifC (.iface tt uu), u.oneCell' = true := hS.one; have HS1 := keepG (hS.low HBV.out.size); have HG1 : Hid (Since wr G) := fun k hk => Nat.le_trans HBV.out.size (hG k hk); have HB1 := keepG (HBV.out.trans (hb1.mono HBV.out.size)); have HD1 := keepG (HD.out.below HB1.out); have n2 : w1.cell? ⟨nb, 2, none⟩ = some (.slice pa ps.length pc) := (HD1.out.hp.cell (j := 2) rfl); clear hS hG hb1))
          | (at_builtin; go_must (refine wpList_append_own_at _ rfl (.tmp 55) (.tmp 57) 67 rfl w.heap.size 69 i0 _ 1 16 Try.underlying67 hi0 hz0 hzs hzb rfl (by decide) (.slice pa ps.length pc) ps.length (flatG ifC ps) rfl (HD1.out.maps.alloc _) ⟨_, 0, none⟩ 1 1 (ifC (.iface tt uu)) rfl rfl (cells_new _ (ifC (.iface tt uu)) _ _ rfl) hone (by unfold maxLen; omega) (by omega) (by have := HD1.out.be.size; simp; omega) ?_); intro v4 w4 hown hgr _ hnew; go_must (have HM4 := keepG (HD.out.more (w2 := w4) (vm2 := v4) (ds := DS) HB1.out (by rw [HDP.out]; exact HS1.out) HG1.out hown hgr); have HP4 : Hid (Hp w4 nb 83 [.int .i64 sh, .int .i64 n, .slice pa ps.length pc, .slice none 0 0, .bool false]) := HD1.out.hp.chg (chg_append hgr) (own_type10 HD1.out.maps HD1.out.hp (by decide)); have z2 : w4.cell? ⟨nb, 2, none⟩ = some (.slice pa ps.length pc) := HP4.out.cell (j := 2) rfl; have zf := HP4.out.frozen 2; obtain ⟨va4, vc4, ev⟩ := own_shape hown; subst ev; clear hown hgr hnew)))
        go_roundw
        case rel => exact ⟨j + 1, _, ps ++ [.iface tt uu], _, by omega, by go_num, by rw [List.length_append, HPL.out]; rfl, HM4⟩
        case measure => simp [intOf]; omega
set_option maxHeartbeats 6400000 in
theorem lonew_lwo (sh n : Int) {v : Value} {es : List (Int × Int)} {o : On} (w : World) (hs : SeesG dfC 2 (0, 0) w v es) (HN : Hid (newO sh n es = some o)) : Calls Try.prog 8 #[.int .i64 sh, .int .i64 n, v] w fun e w' => ∃ b vm ps F, e = .returned (.tuple #[.pointer (some ⟨b, 0, none⟩), .int .i64 0]) ∧ Lwo w' w.heap.size b vm (.slice none 0 0) ps F o ∧ Since w (footO b vm (.slice none 0 0) ps.length F) ∧ Below w.heap.size w w' := by
  have HSB := keepG (fun (wr : World) (hb : Below w.heap.size w wr) => hs.below hb (Nat.le_refl _))
  obtain ⟨a, cap, ev, hlc, hmx⟩ := hs.shape
  subst ev
  obtain ⟨i0, hi0, hz0, hzs, hzb⟩ := info_parts infoIf
  obtain ⟨h1, h2, h3, DS, h4, rfl, hok⟩ := newO_some HN.out
  obtain ⟨l1, l2⟩ := allDf_some h4
  have HDS := keepG l2
  have HL1 := keepG l1
  have g1 : ¬ n < 1 := by omega
  have g2 : ¬ 4 < n := by omega
  have g3 : ¬ sh < 0 := by omega
  have g4 : ¬ n ≤ sh := by omega
  have g5 : ¬ (4 : Int) < es.length := by omega
  obtain ⟨X, HX, HDX⟩ : ∃ X, Hid (w.alloc (.cells #[.int .i64 sh, .int .i64 n, .slice none 0 0, .slice none 0 0, .bool false] 83) = X) ∧ Hid (∀ ds, Lnw w X w.heap.size (.slice none 0 0) [] ds (fun _ _ => False) sh n) := ⟨_, rfl, fun ds => ⟨Hp.new w _ _, World.ownsRow_nil _ _ _ _, Fam.nil, fun i hi => by simp at hi, below_allocG _ _, Nat.le_refl _⟩⟩
  obtain ⟨nb, HNB⟩ : ∃ nb, Hid (w.heap.size = nb) := ⟨_, rfl⟩
  rw [HNB.out] at HDX
  clear hs HN h4 l1 l2
  go_enter Try.func8, Try.ntmps8
  go_wp2_with (rw [HX.out, HNB.out])
  go_loopw [39] (fun i wr => ∃ (j : Nat) (vm : Value) (ps : List Value) (F : Nat → Ft), j ≤ es.length ∧ i = .int .i64 j ∧ ps.length = j ∧ Hid (Lnw w wr nb vm ps DS F sh n)) (fun i _ => es.length - (intOf i).toNat)
  case atStart => exact ⟨0, _, [], _, by omega, rfl, rfl, HDX.out _⟩
  case round =>
    clear HDX
    obtain ⟨j, vm, ps, F, hj, rfl, hpl, HD⟩ := hrel
    rename World => wr
    by_cases hlt : j < es.length
    · have hltI : (j : Int) < es.length := by omega
      obtain ⟨p, off, ev, d0, d1⟩ := dfCAt (HSB.out wr HD.out.be) hlt
      subst ev
      have hd := HDS.out j hlt
      obtain ⟨d, HDJ⟩ : ∃ d, Hid (DS.getD j (false, 0) = d) := ⟨_, rfl⟩
      rw [HDJ.out] at hd
      obtain ⟨e1, e2, e3, e4⟩ := mkDf_some hd
      rw [e1] at d0
      rw [e2] at d1
      obtain ⟨kk, HKK⟩ : ∃ kk : Int, Hid ((if d.1 = true then (1 : Int) else 0) = kk) := ⟨_, rfl⟩
      rw [HKK.out] at d0
      obtain ⟨V, HV, HBV⟩ : ∃ V, Hid (wr.alloc (.cells #[.int .i64 kk, .int .i64 d.2] 74) = V) ∧ Hid (Below wr.heap.size wr V) := ⟨_, rfl, below_allocG _ _⟩
      have hmk := lmake_ok d.1 d.2 e3 e4 V
      rw [HKK.out] at hmk
      have HMK := keepG hmk
      have HDP : Hid (DS.getD ps.length (false, 0) = d) := by show _ = _; rw [hpl]; exact HDJ.out
      obtain ⟨pa, pc, ev⟩ := own_shape HD.out.maps
      subst ev
      have hpb : ps.length ≤ 4 := by omega
      have HPL := keepG hpl
      clear hpl hmk
      go_wp2_with (first
        | (go_at_call 23; rw [HV.out]; go_must (refine HMK.out.mono ?_); rintro e w1 ⟨q, G, rfl, hS, hG, hb1⟩; go_must (obtain ⟨tt, uu, rfl⟩ := hS.shape; have hone : ∀ u ∈ ifC (.iface tt uu), u.oneCell' = true := hS.one; have HS1 := keepG (hS.low HBV.out.size); have HG1 : Hid (Since wr G) := fun k hk => Nat.le_trans HBV.out.size (hG k hk); have HB1 := keepG (HBV.out.trans (hb1.mono HBV.out.size)); have HD1 := keepG (HD.out.below HB1.out); have n2 : w1.cell? ⟨nb, 2, none⟩ = some (.slice pa ps.length pc) := (HD1.out.hp.cell (j := 2) rfl); clear hS hG hb1))
        | (at_builtin; go_must (refine wpList_append_own_at _ rfl (.tmp 55) (.tmp 57) 67 rfl w.heap.size 69 i0 _ 1 16 Try.underlying67 hi0 hz0 hzs hzb rfl (by decide) (.slice pa ps.length pc) ps.length (flatG ifC ps) rfl (HD1.out.maps.alloc _) ⟨_, 0, none⟩ 1 1 (ifC (.iface tt uu)) rfl rfl (cells_new _ (ifC (.iface tt uu)) _ _ rfl) hone (by unfold maxLen; omega) (by omega) (by have := HD1.out.be.size; simp; omega) ?_); intro v4 w4 hown hgr _ hnew; go_must (have HM4 := keepG (HD.out.more (w2 := w4) (vm2 := v4) (ds := DS) HB1.out (by rw [HDP.out]; exact HS1.out) HG1.out hown hgr); have HP4 : Hid (Hp w4 nb 83 [.int .i64 sh, .int .i64 n, .slice pa ps.length pc, .slice none 0 0, .bool false]) := HD1.out.hp.chg (chg_append hgr) (own_type10 HD1.out.maps HD1.out.hp (by decide)); have z2 : w4.cell? ⟨nb, 2, none⟩ = some (.slice pa ps.length pc) := HP4.out.cell (j := 2) rfl; have zf := HP4.out.frozen 2; obtain ⟨va4, vc4, ev⟩ := own_shape hown; subst ev; clear hown hgr hnew)))
      go_roundw
      case rel => exact ⟨j + 1, _, ps ++ [.iface tt uu], _, by omega, by go_num, by rw [List.length_append, HPL.out]; rfl, HM4⟩
      case measure => simp [intOf]; omega
    · have hltI : ¬ (j : Int) < es.length := by omega
      have hpd : ps.length = DS.length := by have := HL1.out; omega
      go_wp2
      go_ret2
      refine ⟨nb, rfl, vm, ps, F, ⟨?_, HD.out.maps, own_win (World.ownsRow_nil _ _ _ _), ?_, ?_⟩, ?_, HD.out.be⟩
      · have e1 : ((On.new sh.toNat n.toNat DS).sh : Int) = sh := by show ((sh.toNat : Nat) : Int) = sh; omega
        have e2 : ((On.new sh.toNat n.toNat DS).n : Int) = n := by show ((n.toNat : Nat) : Int) = n; omega
        rw [e1, e2]
        exact HD.out.hp
      · show ps.length = (List.replicate DS.length Sr.nil).length
        simp [hpd]
      · have : (fun (w1 : World) i G => Sh w1 w.heap.size (ps.getD i .nilIface) ((On.new sh.toNat n.toNat DS).dl i).1 ((On.new sh.toNat n.toNat DS).dl i).2 ((On.new sh.toNat n.toNat DS).sl i) G) = (fun (w1 : World) i G => Sh w1 w.heap.size (ps.getD i .nilIface) (DS.getD i (false, 0)).1 (DS.getD i (false, 0)).2 Sr.nil G) := by
          funext w1 i G
          have e2 : (On.new sh.toNat n.toNat DS).sl i = Sr.nil := by
            show (List.replicate DS.length Sr.nil).getD i Sr.nil = _
            rw [List.getD_eq_getElem?_getD, List.getElem?_replicate]
            split <;> rfl
          rw [e2]
          rfl
        rw [this]
        exact HD.out.fam
      · rintro k ((e | e) | e | ⟨i, hi, e⟩)
        · rw [e]; exact Nat.le_of_eq HNB.out
        · exact (HD.out.maps.lt k e).1
        · cases e
        · exact HD.out.since i hi k e
end Go.Proofs.Ytpbfgebecgikjaa
namespace Go.Proofs.Ytpbfgebecgikjaa
open Go.RowKit
set_option linter.unusedVariables false
def Lwn (w : World) (B b : Nat) (F : Ft) (o : On) : Prop := ∃ rv lv vs Fs, Lwo w B b rv lv vs Fs o ∧ F = footO b rv lv vs.length Fs
theorem Lwn.lies {w : World} {B b : Nat} {F : Ft} {o : On} (h : Lwn w B b F o) : Lies w F := by
  obtain ⟨rv, lv, vs, Fs, h, rfl⟩ := h
  exact h.lies
theorem Lwn.keeps {w w' : World} {B b : Nat} {F G : Ft} {o : On} (h : Lwn w B b F o) (hc : Chg w w' G) (ha : Apt G F) : Lwn w' B b F o := by
  obtain ⟨rv, lv, vs, Fs, h, rfl⟩ := h
  exact ⟨rv, lv, vs, Fs, h.chg hc ha, rfl⟩
theorem lonew_ok (sh n : Int) {v : Value} {es : List (Int × Int)} {o : On} (w : World) (hs : SeesG dfC 2 (0, 0) w v es) (HN : Hid (newO sh n es = some o)) : Calls Try.prog 8 #[.int .i64 sh, .int .i64 n, v] w fun e w' => ∃ b F, e = .returned (.tuple #[.pointer (some ⟨b, 0, none⟩), .int .i64 0]) ∧ Lwn w' w.heap.size b F o ∧ Since w F ∧ Below w.heap.size w w' := by
  refine (lonew_lwo sh n w hs HN).mono ?_
  rintro e w' ⟨b, vm, ps, F, rfl, h, hS, hb⟩
  exact ⟨b, _, rfl, ⟨vm, _, ps, F, h, rfl⟩, hS, hb⟩
theorem Lwn.send {w : World} {B b : Nat} {F : Ft} {o o' : On} (h : Lwn w B b F o) (hk : o.Ok) (hB : B ≤ w.heap.size) {u : Value} {qs : List Rt} (hz : Hid ((o.ln.length + qs.length) * 56 ≤ 140737488355328)) (hs : SeesG rtC 7 Rt.nil w u qs) (hwf : ∀ q ∈ qs, q.wf) (hap : qs ≠ [] → Apt F (ftV u)) {E : Int} (HQ : Hid (o.send qs = (E, o'))) : Calls Try.prog 10 #[.pointer (some ⟨b, 0, none⟩), u] w fun e w' => e = .returned (.int .i64 E) ∧ ∃ F', Lwn w' B b F' o' ∧ Nx w w' F F' := by
  obtain ⟨rv, lv, vs, Fs, h, rfl⟩ := h
  refine (lsend h hk.n1 hB hz hs hwf HQ).mono ?_
  rintro e w' ⟨rfl, lv', h', hn⟩
  exact ⟨rfl, _, ⟨rv, lv', vs, Fs, h', rfl⟩, hn⟩
theorem Lwn.step {w : World} {B b : Nat} {F : Ft} {o o' : On} (h : Lwn w B b F o) (hk : o.Ok) (hB : B ≤ w.heap.size) (hz : Hid (o.ln.length * 56 ≤ 140737488355328)) {p : Ry} {r : Bool} (HQ : Hid (o.step = (p, r, o'))) : Calls Try.prog 13 #[.pointer (some ⟨b, 0, none⟩)] w fun e w' => ∃ u, e = .returned (.tuple #[rpV p u, .bool r]) ∧ ∃ F', Lwn w' B b F' o' ∧ Nx w w' F F' ∧ RoPp w' w.heap.size u p.ps ∧ Apt F' (ftV u) := by
  obtain ⟨rv, lv, vs, Fs, h, rfl⟩ := h
  have hq := HQ.out
  unfold On.step at hq
  split at hq
  · rename_i hl
    injection hq with q1 q2
    injection q2 with q2 q3
    subst q1 q2 q3
    refine (lstep_none h hl).mono ?_
    rintro e w' ⟨rfl, h', hb⟩
    exact ⟨_, rfl, _, ⟨rv, lv, vs, Fs, h', rfl⟩, Nx.below hb, World.ownsRow_nil _ _ _ _, fun j e1 e2 => by cases e2⟩
  · rename_i q rr hl
    injection hq with q1 q2
    injection q2 with q2 q3
    subst q2
    refine (lstep_some h hk hB hl (show Hid (o.serve q rr = (p, o')) from Prod.ext q1 q3)).mono ?_
    rintro e w' ⟨u, rfl, lv', F', h', hn, hr, ha⟩
    exact ⟨u, rfl, _, ⟨rv, lv', vs, F', h', rfl⟩, hn, hr, ha⟩
theorem Lwn.waiting {w : World} {B b : Nat} {F : Ft} {o : On} (h : Lwn w B b F o) (hz : Hid (o.ln.length * 56 ≤ 140737488355328)) : Calls Try.prog 21 #[.pointer (some ⟨b, 0, none⟩)] w fun e w' => ∃ u, e = .returned u ∧ RoRt w' w.heap.size u o.ln ∧ Below w.heap.size w w' := by
  obtain ⟨rv, lv, vs, Fs, h, rfl⟩ := h
  exact lwaiting h hz
theorem Lwn.endd {w : World} {B b : Nat} {F : Ft} {o o' : On} (h : Lwn w B b F o) (hB : B ≤ w.heap.size) {E : Int} (HQ : Hid (o.end = (E, o'))) : Calls Try.prog 16 #[.pointer (some ⟨b, 0, none⟩)] w fun e w' => e = .returned (.int .i64 E) ∧ ∃ F', Lwn w' B b F' o' ∧ Nx w w' F F' := by
  obtain ⟨rv, lv, vs, Fs, h, rfl⟩ := h
  refine (lend h HQ).mono ?_
  rintro e w' ⟨rfl, h', hc⟩
  exact ⟨rfl, _, ⟨rv, lv, vs, Fs, h', rfl⟩, hc.mono (fun k e => .inl (.inl e)), fun k hk => .inl hk⟩
theorem Lwn.ended {w : World} {B b : Nat} {F : Ft} {o : On} (h : Lwn w B b F o) : Calls Try.prog 22 #[.pointer (some ⟨b, 0, none⟩)] w fun e w' => e = .returned (.bool o.over) ∧ w = w' := by
  obtain ⟨rv, lv, vs, Fs, h, rfl⟩ := h
  exact lended h
theorem Lwn.pairs {w : World} {B b : Nat} {F : Ft} {o : On} (h : Lwn w B b F o) (hk : o.Ok) (m : Int) {E : Int} {ps : List Pp} (HQ : Hid ((if o.hasM m = true then (0, (o.sr m).1) else (2, [])) = (E, ps))) : Calls Try.prog 18 #[.pointer (some ⟨b, 0, none⟩), .int .i64 m] w fun e w' => ∃ u, e = .returned (.tuple #[u, .int .i64 E]) ∧ RoPp w' w.heap.size u ps ∧ Below w.heap.size w w' := by
  obtain ⟨rv, lv, vs, Fs, h, rfl⟩ := h
  exact lpairs h hk m HQ
end Go.Proofs.Ytpbfgebecgikjaa
namespace Go.Proofs.Ytpbfgebecgikjaa
open Go.ChangeShapes Go.WideShapes Go.ChangeAt Go.RowKit
set_option linter.unusedVariables false
set_option linter.unusedSimpArgs false
set_option maxRecDepth 100000

theorem dfC_len (e : Int × Int) : (dfC e).length = 2 := rfl
theorem df_cells {H : Type} {enc : TypeId × Value → H} {W : World} {fuel : Nat} {cs : List Value} {x : DataW H × List MemPlace}
    (h : DataW.trod enc Try.prog W 0 (fun _ => true) true fuel 74 cs = some x) : ∃ e : Int × Int, cs = dfC e ∧ True ∧ ((x.1.weights Try.prog 74).all (· ≤ reachBytes) = true → True) := by
  obtain ⟨xs, n, rfl, hx, hl, hlen, hf⟩ := DataW.trod_struct Try.underlying74 h
  have l5 : cs.length = 2 := by rw [hl]; kernel_rfl
  have u2 : Try.prog.cellsOf 3 = 1 := by kernel_rfl
  have u3 : Try.prog.cellsOf 72 = 1 := by kernel_rfl
  match cs, l5, xs, hlen, hf with
  | [c0, c1], _, [x0, x1], _, hf =>
    have h0 : DataW.trod enc Try.prog W 0 (fun _ => true) true n 72 (([c0, c1].drop 0).take (Try.prog.cellsOf 72)) = some x0 := hf 0 _ rfl
    have h1 : DataW.trod enc Try.prog W 0 (fun _ => true) true n 3 (([c0, c1].drop 1).take (Try.prog.cellsOf 3)) = some x1 := hf 1 _ rfl
    rw [u3] at h0
    rw [u2] at h1
    obtain ⟨a, e0, y0, g0⟩ := DataW.trod_int Try.underlying72 h0
    obtain ⟨b, e1, y1, g1⟩ := DataW.trod_int Try.underlying3 h1
    simp at e0 e1
    subst e0 e1
    exact ⟨(a, b), rfl, trivial, fun _ => trivial⟩
theorem wf_u64k {k : Int} (h : (Lit.int .u64 k).wf = true) : 0 ≤ k ∧ k < 18446744073709551616 := by
  simp [Lit.wf, IntKind.min, IntKind.max, IntKind.signed, IntKind.bits] at h
  omega
theorem rt_cells {H : Type} {enc : TypeId × Value → H} {W : World} {fuel : Nat} {cs : List Value} {x : DataW H × List MemPlace}
    (h : DataW.trod enc Try.prog W 0 (fun _ => true) true fuel 45 cs = some x) : ∃ q : Rt, cs = rtC q ∧ q.wf ∧ ((x.1.weights Try.prog 45).all (· ≤ reachBytes) = true → True) := by
  obtain ⟨xs, n, rfl, hx, hl, hlen, hf⟩ := DataW.trod_struct Try.underlying45 h
  have l5 : cs.length = 7 := by rw [hl]; kernel_rfl
  have u2 : Try.prog.cellsOf 3 = 1 := by kernel_rfl
  have u3 : Try.prog.cellsOf 4 = 1 := by kernel_rfl
  have u4 : Try.prog.cellsOf 43 = 4 := by kernel_rfl
  have u5 : Try.prog.cellsOf 40 = 1 := by kernel_rfl
  have u6 : Try.prog.cellsOf 41 = 1 := by kernel_rfl
  match cs, l5, xs, hlen, hf with
  | [c0, c1, c2, c3, c4, c5, c6], _, [x0, x1, x2, x3], _, hf =>
    have h0 : DataW.trod enc Try.prog W 0 (fun _ => true) true n 3 (([c0, c1, c2, c3, c4, c5, c6].drop 0).take (Try.prog.cellsOf 3)) = some x0 := hf 0 _ rfl
    have h1 : DataW.trod enc Try.prog W 0 (fun _ => true) true n 3 (([c0, c1, c2, c3, c4, c5, c6].drop 1).take (Try.prog.cellsOf 3)) = some x1 := hf 1 _ rfl
    have h2 : DataW.trod enc Try.prog W 0 (fun _ => true) true n 4 (([c0, c1, c2, c3, c4, c5, c6].drop 2).take (Try.prog.cellsOf 4)) = some x2 := hf 2 _ rfl
    have h3 : DataW.trod enc Try.prog W 0 (fun _ => true) true n 43 (([c0, c1, c2, c3, c4, c5, c6].drop 3).take (Try.prog.cellsOf 43)) = some x3 := hf 3 _ rfl
    rw [u2] at h0 h1
    rw [u3] at h2
    rw [u4] at h3
    have h3 : DataW.trod enc Try.prog W 0 (fun _ => true) true n 43 [c3, c4, c5, c6] = some x3 := h3
    obtain ⟨y0, e0, z0, _⟩ := DataW.trod_int Try.underlying3 h0
    obtain ⟨y1, e1, z1, _⟩ := DataW.trod_int Try.underlying3 h1
    obtain ⟨y2, e2, _⟩ := DataW.trod_bool Try.underlying4 h2
    simp at e0 e1 e2
    subst e0 e1 e2
    obtain ⟨ys, m, hx', hy, hl2, hlen2, hf2⟩ := DataW.trod_struct Try.underlying43 h3
    match ys, hlen2, hf2 with
    | [i0, i1, i2, i3], _, hf2 =>
      have k0 : DataW.trod enc Try.prog W 0 (fun _ => true) true m 3 (([c3, c4, c5, c6].drop 0).take (Try.prog.cellsOf 3)) = some i0 := hf2 0 _ rfl
      have k1 : DataW.trod enc Try.prog W 0 (fun _ => true) true m 40 (([c3, c4, c5, c6].drop 1).take (Try.prog.cellsOf 40)) = some i1 := hf2 1 _ rfl
      have k2 : DataW.trod enc Try.prog W 0 (fun _ => true) true m 41 (([c3, c4, c5, c6].drop 2).take (Try.prog.cellsOf 41)) = some i2 := hf2 2 _ rfl
      have k3 : DataW.trod enc Try.prog W 0 (fun _ => true) true m 41 (([c3, c4, c5, c6].drop 3).take (Try.prog.cellsOf 41)) = some i3 := hf2 3 _ rfl
      rw [u2] at k0
      rw [u5] at k1
      rw [u6] at k2 k3
      obtain ⟨m0, d0, _, _⟩ := DataW.trod_int Try.underlying3 k0
      obtain ⟨m1, d1, _, _⟩ := DataW.trod_int Try.underlying40 k1
      obtain ⟨m2, d2, _, g2⟩ := DataW.trod_int Try.underlying41 k2
      obtain ⟨m3, d3, _, _⟩ := DataW.trod_int Try.underlying41 k3
      simp at d0 d1 d2 d3
      subst d0 d1 d2 d3
      exact ⟨⟨y0, y1, y2, m0, m1, m2, m3⟩, rfl, wf_u64k g2, fun _ => trivial⟩
/-- Requests that were handed in. -/
structure Rqs (w0 : World) (v : Value) (qs : List Rt) : Prop where
  sees : SeesG rtC 7 Rt.nil w0 v qs
  wf : ∀ q ∈ qs, q.wf
theorem opens_Rt {H : Type} {enc : TypeId × Value → H} {W : World} {base : Nat} {v : Value} {d : DataW H} {p : List MemPlace}
    (hok : Value.okWide Try.prog W .any base 34 v) (h : DataW.Trod enc Try.prog W 0 (fun _ => true) true 34 v d p) :
    ∃ xs, SeesG rtC 7 Rt.nil W v xs ∧ (∀ x ∈ xs, x.wf) ∧ ((d.weights Try.prog 34).all (· ≤ reachBytes) = true → xs.length * 56 ≤ 140737488351232 ∧ ∀ x ∈ xs, True) :=
  opensGW Rt.nil (R := Rt.wf) (Q := fun _ => True) Try.underlying34 (by kernel_rfl) (by decide) rtC_len (by kernel_rfl) rt_cells hok h
/-- A shape: a shard, how many, the maps. -/
abbrev shV (s n : Int) (mv : Value) : Value := .agg #[.int .i64 s, .int .i64 n, mv]
theorem open_Shape {H : Type} {enc : TypeId × Value → H} {W : World} {base : Nat} {v : Value} {d : DataW H} {p : List MemPlace}
    (hok : Value.okWide Try.prog W .any base 24 v) (h : DataW.Trod enc Try.prog W 0 (fun _ => true) true 24 v d p) :
    ∃ s n mv es, v = shV s n mv ∧ SeesG dfC 2 (0, 0) W mv es ∧ ((d.weights Try.prog 24).all (· ≤ reachBytes) = true → es.length * 16 ≤ 140737488351232) := by
  obtain ⟨cs, rfl, _⟩ := okWide_struct Try.underlying24 hok
  obtain ⟨fuel, hf⟩ := h
  obtain ⟨xs, n, hd, hx, hl, hlen, hf⟩ := DataW.trod_struct Try.underlying24 hf
  have l5 : cs.toList.length = 3 := hl.trans (by kernel_rfl)
  have u2 : Try.prog.cellsOf 3 = 1 := by kernel_rfl
  have u4 : Try.prog.cellsOf 22 = 1 := by kernel_rfl
  obtain ⟨cl⟩ := cs
  simp only [Value.cells] at hf l5
  match cl, l5, xs, hlen, hf with
  | [c0, c1, c2], _, [x0, x1, x2], _, hf =>
    have h0 : DataW.trod enc Try.prog W 0 (fun _ => true) true n 3 (([c0, c1, c2].drop 0).take (Try.prog.cellsOf 3)) = some x0 := hf 0 _ rfl
    have h1 : DataW.trod enc Try.prog W 0 (fun _ => true) true n 3 (([c0, c1, c2].drop 1).take (Try.prog.cellsOf 3)) = some x1 := hf 1 _ rfl
    have h2 : DataW.trod enc Try.prog W 0 (fun _ => true) true n 22 (([c0, c1, c2].drop 2).take (Try.prog.cellsOf 22)) = some x2 := hf 2 _ rfl
    rw [u2] at h0 h1
    rw [u4] at h2
    have h2 : DataW.trod enc Try.prog W 0 (fun _ => true) true n 22 [c2] = some x2 := h2
    obtain ⟨a, e0, y0, g0⟩ := DataW.trod_int Try.underlying3 h0
    obtain ⟨b, e1, y1, g1⟩ := DataW.trod_int Try.underlying3 h1
    simp at e0 e1
    subst e0 e1
    obtain ⟨ua, ul, uc, rfl⟩ := slice_of_trod Try.underlying22 h2
    obtain ⟨es, s1, _, s3⟩ := opensGS (f := dfC) (z := 2) (0, 0) (R := fun _ => True) (Q := fun _ => True) (bytes := 16) (d := x2.1) (p := x2.2) Try.underlying22 (by kernel_rfl) (by decide) dfC_len (by kernel_rfl) df_cells ⟨_, _, _, rfl⟩ ⟨n, h2⟩
    refine ⟨a, b, _, es, rfl, s1, fun hall => ?_⟩
    have hd2 : d = .agg (List.map (fun x => x.1) [x0, x1, x2]) := by simpa using congrArg Prod.fst hx
    rw [hd2, DataW.weights, Try.underlying24] at hall
    simp only [DataW.weightsEach, List.map_cons, List.map_nil, List.all_append, Bool.and_eq_true] at hall
    exact (s3 hall.2.2.1).1
end Go.Proofs.Ytpbfgebecgikjaa
namespace Go.Proofs.Ytpbfgebecgikjaa
open Go.ChangeShapes Go.WideShapes Go.ChangeAt Go.RowKit
set_option linter.unusedVariables false
set_option linter.unusedSimpArgs false
set_option maxRecDepth 100000
/-- A call of a script. -/
structure Oq where
  k : Int
  m : Int
  u : Value
  qs : List Rt
def Oq.nil : Oq := ⟨0, 0, .slice none 0 0, []⟩
abbrev oqC (o : Oq) : List Value := [.int .i64 o.k, .int .i64 o.m, o.u]
theorem oqC_len (o : Oq) : (oqC o).length = 3 := rfl
theorem op22_cells {H : Type} {enc : TypeId × Value → H} {W : World} {fuel : Nat} {cs : List Value} {x : DataW H × List MemPlace}
    (h : DataW.trod enc Try.prog W 0 (fun _ => true) true fuel 36 cs = some x) : ∃ o : Oq, cs = oqC o ∧ Rqs W o.u o.qs ∧ ((x.1.weights Try.prog 36).all (· ≤ reachBytes) = true → True) := by
  obtain ⟨xs, n, rfl, hx, hl, hlen, hf⟩ := DataW.trod_struct Try.underlying36 h
  have l5 : cs.length = 3 := by rw [hl]; kernel_rfl
  have u2 : Try.prog.cellsOf 3 = 1 := by kernel_rfl
  have u4 : Try.prog.cellsOf 34 = 1 := by kernel_rfl
  match cs, l5, xs, hlen, hf with
  | [c0, c1, c2], _, [x0, x1, x2], _, hf =>
    have h0 : DataW.trod enc Try.prog W 0 (fun _ => true) true n 3 (([c0, c1, c2].drop 0).take (Try.prog.cellsOf 3)) = some x0 := hf 0 _ rfl
    have h1 : DataW.trod enc Try.prog W 0 (fun _ => true) true n 3 (([c0, c1, c2].drop 1).take (Try.prog.cellsOf 3)) = some x1 := hf 1 _ rfl
    have h2 : DataW.trod enc Try.prog W 0 (fun _ => true) true n 34 (([c0, c1, c2].drop 2).take (Try.prog.cellsOf 34)) = some x2 := hf 2 _ rfl
    rw [u2] at h0 h1
    rw [u4] at h2
    have h2 : DataW.trod enc Try.prog W 0 (fun _ => true) true n 34 [c2] = some x2 := h2
    obtain ⟨y0, e0, z0, _⟩ := DataW.trod_int Try.underlying3 h0
    obtain ⟨y1, e1, z1, _⟩ := DataW.trod_int Try.underlying3 h1
    simp at e0 e1
    subst e0 e1
    obtain ⟨ua, ul, uc, rfl⟩ := slice_of_trod Try.underlying34 h2
    obtain ⟨zs, s1, s2, _⟩ := opensGS (f := rtC) (z := 7) Rt.nil (R := Rt.wf) (Q := fun _ => True) (bytes := 56) (d := x2.1) (p := x2.2) Try.underlying34 (by kernel_rfl) (by decide) rtC_len (by kernel_rfl) rt_cells ⟨_, _, _, rfl⟩ ⟨n, h2⟩
    exact ⟨⟨y0, y1, _, zs⟩, rfl, ⟨s1, s2⟩, fun _ => trivial⟩
theorem opens_Op22 {H : Type} {enc : TypeId × Value → H} {W : World} {base : Nat} {v : Value} {d : DataW H} {p : List MemPlace}
    (hok : Value.okWide Try.prog W .any base 25 v) (h : DataW.Trod enc Try.prog W 0 (fun _ => true) true 25 v d p) :
    ∃ xs, SeesG oqC 3 Oq.nil W v xs ∧ (∀ x ∈ xs, Rqs W x.u x.qs) ∧ ((d.weights Try.prog 25).all (· ≤ reachBytes) = true → xs.length * 40 ≤ 140737488351232 ∧ ∀ x ∈ xs, True) :=
  opensGW Oq.nil (R := fun o => Rqs W o.u o.qs) (Q := fun _ => True) Try.underlying25 (by kernel_rfl) (by decide) oqC_len (by kernel_rfl) op22_cells hok h
/-- A script that was handed in. -/
structure Sc22 (w0 : World) (v : Value) (xs : List Oq) : Prop where
  sees : SeesG oqC 3 Oq.nil w0 v xs
  qs : ∀ x ∈ xs, Rqs w0 x.u x.qs
theorem oqAt {w : World} {a : Option Addr} {n cap : Nat} {l : List Oq} (h : SeesG oqC 3 Oq.nil w (.slice a n cap) l) {j : Nat} (hj : j < l.length) : ∃ p off, a = some ⟨p, off, none⟩ ∧ w.cell? ⟨p, off + j * 3, none⟩ = some (.int .i64 (l.getD j Oq.nil).k) ∧ w.cell? ⟨p, off + j * 3 + 1, none⟩ = some (.int .i64 (l.getD j Oq.nil).m) ∧ w.cell? ⟨p, off + j * 3 + 2, none⟩ = some (l.getD j Oq.nil).u := by
  obtain ⟨a', cap', ev, _, _, _, hat⟩ := h
  simp only [Value.slice.injEq] at ev
  obtain ⟨rfl, _, rfl⟩ := ev
  obtain ⟨p, off, rfl, _, hc⟩ := hat (fun e => by rw [e] at hj; simp at hj)
  exact ⟨p, off, rfl, hc j hj 0 (by omega), hc j hj 1 (by omega), hc j hj 2 (by omega)⟩
end Go.Proofs.Ytpbfgebecgikjaa
namespace Go.Proofs.Ytpbfgebecgikjaa
open Go.RowKit
set_option linter.unusedVariables false
set_option linter.unusedSimpArgs false
set_option maxRecDepth 100000
/-- An owner that was made since a world, and its blocks. -/
structure Lz (w0 w : World) (b : Nat) (F : Ft) (o : On) : Prop where
  ex : ∃ B, B ≤ w.heap.size ∧ Lwn w B b F o
  since : Since w0 F
  ok : o.Ok
  be : Below w0.heap.size w0 w
section
variable {w0 w w' : World} {b : Nat} {F F' G : Ft} {o o' : On}
theorem Lz.lies (h : Lz w0 w b F o) : Lies w F := by
  obtain ⟨B, _, h1⟩ := h.ex
  exact h1.lies
theorem Lz.keeps (h : Lz w0 w b F o) (hc : Chg w w' G) (ha : Apt G F) (hs : Since w0 G) : Lz w0 w' b F o := by
  obtain ⟨B, h0, h1⟩ := h.ex
  exact ⟨⟨B, Nat.le_trans h0 hc.size, h1.keeps hc ha⟩, h.since, h.ok, h.be.trans (hc.below (fun k e => hs k e) h.be.size)⟩
theorem Lz.below (h : Lz w0 w b F o) (hb : Below w.heap.size w w') : Lz w0 w' b F o := h.keeps (Chg.of_below (S := fun _ => False) hb) (fun _ e => e.elim) (fun _ e => e.elim)
theorem Lz.apt (h : Lz w0 w b F o) {v : Value} {α : Type} {ws : List α} (hl : ws ≠ [] → ∀ k, ftV v k → k < w0.heap.size) : ws ≠ [] → Apt F (ftV v) := fun hne k hk e => by
  have := hl hne k e
  have := h.since k hk
  omega
/-- What lies where nothing of the owner lies. -/
theorem Lz.aptN (h : Lz w0 w b F o) {v : Value} {α : Type} {ws : List α} (hl : ∀ k, ftV v k → w.heap.size ≤ k) : ws ≠ [] → Apt F (ftV v) := fun _ k hk e => by
  have := hl k e
  have := h.lies k hk
  omega
theorem Lz.go (h : Lz w0 w b F o) (hx : ∃ B, B ≤ w.heap.size ∧ Lwn w' B b F' o') (hk : o'.Ok) (hn : Nx w w' F F') : Lz w0 w' b F' o' := by
  obtain ⟨B, h0, h1⟩ := hx
  exact ⟨⟨B, Nat.le_trans h0 hn.chg.size, h1⟩, h.since.next h.be.size hn, hk, h.since.be h.be hn⟩
theorem Lz.send (h : Lz w0 w b F o) {u : Value} {qs : List Rt} (hz : Hid ((o.ln.length + qs.length) * 56 ≤ 140737488355328)) (hs : SeesG rtC 7 Rt.nil w u qs) (hwf : ∀ q ∈ qs, q.wf) (hap : qs ≠ [] → Apt F (ftV u)) {E : Int} (HQ : Hid (o.send qs = (E, o'))) : Calls Try.prog 10 #[.pointer (some ⟨b, 0, none⟩), u] w fun e w' => e = .returned (.int .i64 E) ∧ ∃ F', Lz w0 w' b F' o' ∧ Nx w w' F F' := by
  obtain ⟨B, h0, h1⟩ := h.ex
  refine (h1.send h.ok h0 hz hs hwf hap HQ).mono ?_
  rintro e w' ⟨rfl, F', g1, g2⟩
  exact ⟨rfl, F', h.go ⟨B, h0, g1⟩ (h.ok.send HQ.out) g2, g2⟩
theorem Lz.step (h : Lz w0 w b F o) (hz : Hid (o.ln.length * 56 ≤ 140737488355328)) {p : Ry} {r : Bool} (HQ : Hid (o.step = (p, r, o'))) : Calls Try.prog 13 #[.pointer (some ⟨b, 0, none⟩)] w fun e w' => ∃ a c, e = .returned (.tuple #[rpV p (.slice a p.ps.length c), .bool r]) ∧ ∃ F', Lz w0 w' b F' o' ∧ Nx w w' F F' ∧ RoPp w' w.heap.size (.slice a p.ps.length c) p.ps ∧ Apt F' (ftV (.slice a p.ps.length c)) := by
  obtain ⟨B, h0, h1⟩ := h.ex
  refine (h1.step h.ok h0 hz HQ).mono ?_
  rintro e w' ⟨u, rfl, F', g1, g2, g3, g4⟩
  obtain ⟨a, c, rfl⟩ := own_shape g3
  exact ⟨a, c, rfl, F', h.go ⟨B, h0, g1⟩ (h.ok.step HQ.out) g2, g2, g3, g4⟩
theorem Lz.waiting (h : Lz w0 w b F o) (hz : Hid (o.ln.length * 56 ≤ 140737488355328)) {l : List Rt} (hl : Hid (o.ln = l)) : Calls Try.prog 21 #[.pointer (some ⟨b, 0, none⟩)] w fun e w' => ∃ a c, e = .returned (.slice a l.length c) ∧ RoRt w' w.heap.size (.slice a l.length c) l ∧ Below w.heap.size w w' := by
  obtain ⟨B, h0, h1⟩ := h.ex
  refine (h1.waiting hz).mono ?_
  rintro e w' ⟨u, rfl, g1, g2⟩
  rw [hl.out] at g1
  obtain ⟨a, c, rfl⟩ := own_shape g1
  exact ⟨a, c, rfl, g1, g2⟩
theorem Lz.endd (h : Lz w0 w b F o) {E : Int} (HQ : Hid (o.end = (E, o'))) : Calls Try.prog 16 #[.pointer (some ⟨b, 0, none⟩)] w fun e w' => e = .returned (.int .i64 E) ∧ ∃ F', Lz w0 w' b F' o' ∧ Nx w w' F F' := by
  obtain ⟨B, h0, h1⟩ := h.ex
  refine (h1.endd h0 HQ).mono ?_
  rintro e w' ⟨rfl, F', g1, g2⟩
  exact ⟨rfl, F', h.go ⟨B, h0, g1⟩ (h.ok.end HQ.out) g2, g2⟩
theorem Lz.ended (h : Lz w0 w b F o) : Calls Try.prog 22 #[.pointer (some ⟨b, 0, none⟩)] w fun e w' => e = .returned (.bool o.over) ∧ w = w' := by
  obtain ⟨B, h0, h1⟩ := h.ex
  exact h1.ended
theorem Lz.pairs (h : Lz w0 w b F o) (m : Int) {E : Int} {ps : List Pp} (HQ : Hid ((if o.hasM m = true then (0, (o.sr m).1) else (2, [])) = (E, ps))) : Calls Try.prog 18 #[.pointer (some ⟨b, 0, none⟩), .int .i64 m] w fun e w' => ∃ a c, e = .returned (.tuple #[.slice a ps.length c, .int .i64 E]) ∧ RoPp w' w.heap.size (.slice a ps.length c) ps ∧ Below w.heap.size w w' := by
  obtain ⟨B, h0, h1⟩ := h.ex
  refine (h1.pairs h.ok m HQ).mono ?_
  rintro e w' ⟨u, rfl, g1, g2⟩
  obtain ⟨a, c, rfl⟩ := own_shape g1
  exact ⟨a, c, rfl, g1, g2⟩
theorem lznew_ok (sh n : Int) {v : Value} {es : List (Int × Int)} {w1 : World} (hb : Below w0.heap.size w0 w1) (hs : SeesG dfC 2 (0, 0) w1 v es) (HN : Hid (newO sh n es = some o)) : Calls Try.prog 8 #[.int .i64 sh, .int .i64 n, v] w1 fun e w' => ∃ b F, e = .returned (.tuple #[.pointer (some ⟨b, 0, none⟩), .int .i64 0]) ∧ Lz w0 w' b F o ∧ Since w1 F ∧ Below w1.heap.size w1 w' := by
  refine (lonew_ok sh n w1 hs HN).mono ?_
  rintro e w' ⟨b, F, rfl, h1, h2, h3⟩
  obtain ⟨_, _, _, _, _, _, hok⟩ := newO_some HN.out
  exact ⟨b, F, rfl, ⟨⟨_, h3.size, h1⟩, fun k hk => Nat.le_trans hb.size (h2 k hk), hok, hb.trans (h3.mono hb.size)⟩, h2, h3⟩
end
theorem SeesG.oldG {α : Type} {f : α → List Value} {z : Nat} {d : α} {w0 : World} {v : Value} {xs : List α} (h : SeesG f z d w0 v xs) : xs ≠ [] → ∀ k, ftV v k → k < w0.heap.size := by
  intro hne k hk
  obtain ⟨a, c, rfl, _, _, _, hc⟩ := h
  obtain ⟨b, of, rfl, hlt, _⟩ := hc hne
  have : b = k := Option.some.inj hk
  omega
section
variable {w w' : World}
set_option maxHeartbeats 3200000 in
/-- Equal lines are alike. -/
theorem wlines {va vb : Value} {A : List Rt} (ha : SeesG rtC 7 Rt.nil w va A) (hb : SeesG rtC 7 Rt.nil w vb A) : Calls Try.prog 12 #[va, vb] w fun e w' => e = .returned (.bool true) ∧ Below w.heap.size w w' := by
  have HA := keepG (fun (wr : World) (hc : Below w.heap.size w wr) => ha.below hc (Nat.le_refl _))
  have HB := keepG (fun (wr : World) (hc : Below w.heap.size w wr) => hb.below hc (Nat.le_refl _))
  obtain ⟨a1, c1, ev1, hl1, hm1⟩ := ha.shape
  obtain ⟨a2, c2, ev2, hl2, hm2⟩ := hb.shape
  subst ev1 ev2
  have hAl : A.length ≤ 9223372036854775807 := by omega
  clear ha hb
  go_enter Try.func12, Try.ntmps12
  go_wp2
  go_loopw [5] (fun i wr => ∃ j : Nat, j ≤ A.length ∧ i = .int .i64 j ∧ Hid (Below w.heap.size w wr)) (fun i _ => A.length - (intOf i).toNat)
  case atStart => exact ⟨0, by omega, rfl, Below.refl _ _⟩
  case round =>
    obtain ⟨j, hj, rfl, HBW⟩ := hrel
    rename World => wr
    by_cases hlt : j < A.length
    · have hltI : (j : Int) < A.length := by omega
      obtain ⟨p1, o1, ev1, hat1⟩ := rtAt (HA.out wr HBW.out) hlt
      obtain ⟨p2, o2, ev2, hat2⟩ := rtAt (HB.out wr HBW.out) hlt
      subst ev1 ev2
      obtain ⟨t, HT⟩ : ∃ t, Hid (A.getD j Rt.nil = t) := ⟨_, rfl⟩
      obtain ⟨d0, d1, d2, d3, d4, d5, d6⟩ := hat1 j hlt t HT.out
      obtain ⟨e0, e1, e2, e3, e4, e5, e6⟩ := hat2 j hlt t HT.out
      obtain ⟨qf, qt, qw, qm, qo, qk, qv⟩ := t
      simp only at d0 d1 d2 d3 d4 d5 d6 e0 e1 e2 e3 e4 e5 e6
      clear hat1 hat2
      have HBd := keepG (below_drG HBW.out)
      go_wp2
      refine wp_region_held_drew (S := fun w' => (w'.cell? ⟨p1, o1 + j * 7, none⟩ = some (.int .i64 qf) ∧ w'.cell? ⟨p1, o1 + j * 7 + 1, none⟩ = some (.int .i64 qt) ∧ w'.cell? ⟨p1, o1 + j * 7 + 2, none⟩ = some (.bool qw) ∧ w'.cell? ⟨p1, o1 + j * 7 + 3, none⟩ = some (.int .i64 qm) ∧ w'.cell? ⟨p1, o1 + j * 7 + 4, none⟩ = some (.int .i64 qo) ∧ w'.cell? ⟨p1, o1 + j * 7 + 5, none⟩ = some (.int .u64 qk) ∧ w'.cell? ⟨p1, o1 + j * 7 + 6, none⟩ = some (.int .u64 qv)) ∧ w'.cell? ⟨p2, o2 + j * 7, none⟩ = some (.int .i64 qf) ∧ w'.cell? ⟨p2, o2 + j * 7 + 1, none⟩ = some (.int .i64 qt) ∧ w'.cell? ⟨p2, o2 + j * 7 + 2, none⟩ = some (.bool qw) ∧ w'.cell? ⟨p2, o2 + j * 7 + 3, none⟩ = some (.int .i64 qm) ∧ w'.cell? ⟨p2, o2 + j * 7 + 4, none⟩ = some (.int .i64 qo) ∧ w'.cell? ⟨p2, o2 + j * 7 + 5, none⟩ = some (.int .u64 qk) ∧ w'.cell? ⟨p2, o2 + j * 7 + 6, none⟩ = some (.int .u64 qv)) (by kernel_rfl) ⟨⟨d0, d1, d2, d3, d4, d5, d6⟩, e0, e1, e2, e3, e4, e5, e6⟩ (fun hHeld => ?_)
      refine tkGo [0, 1, 2, 3, 4, 5, 6, 7, 8] ?_
      repeat (refine tkOne (v := ?_) rfl (by kernel_rfl) (by kernel_rfl) (by kernel_rfl) (fun _ _ _ h => h) (by assumption) (by rfl) ?_ ?_; rotate_left; (intro wy hSw; (try dsimp only at hSw); go_simp; (first | done | with_reducible rfl)); try simp only [Act.put, List.getElem_toArray, List.getElem_cons_zero, List.getElem_cons_succ, List.setIfInBounds_toArray, List.set_cons_zero, List.set_cons_succ])
      refine tkEnd ?_
      refine wpAnyH_done (by kernel_rfl) ?_ _
      clear hHeld
      go_wp2
      go_roundw
      case rel => exact ⟨j + 1, by omega, by go_num, HBd.out⟩
      case measure => simp [intOf]; omega
    · have hltI : ¬ (j : Int) < A.length := by omega
      go_wp2
      go_ret
      exact ⟨rfl, HBW.out⟩
theorem ppAt {a : Option Addr} {n cap : Nat} {l : List Pp} (h : SeesG ppC 2 Pp.nil w (.slice a n cap) l) {j : Nat} (hj : j < l.length) : ∃ p off, a = some ⟨p, off, none⟩ ∧ ∀ i, i < l.length → ∀ q, l.getD i Pp.nil = q → w.cell? ⟨p, off + i * 2, none⟩ = some (.int .u64 q.k) ∧ w.cell? ⟨p, off + i * 2 + 1, none⟩ = some (.int .u64 q.v) := by
  obtain ⟨a', cap', ev, _, _, _, hat⟩ := h
  simp only [Value.slice.injEq] at ev
  obtain ⟨rfl, _, rfl⟩ := ev
  obtain ⟨p, off, rfl, _, hc⟩ := hat (fun e => by rw [e] at hj; simp at hj)
  refine ⟨p, off, rfl, fun i hi q hq => ?_⟩
  have g0 := hc i hi 0 (by omega)
  have g1 := hc i hi 1 (by omega)
  rw [hq] at g0 g1
  exact ⟨g0, g1⟩
set_option maxHeartbeats 3200000 in
/-- Equal pairs are alike. -/
theorem wpairs22 {va vb : Value} {A : List Pp} (ha : SeesG ppC 2 Pp.nil w va A) (hb : SeesG ppC 2 Pp.nil w vb A) : Calls Try.prog 19 #[va, vb] w fun e w' => e = .returned (.bool true) ∧ Below w.heap.size w w' := by
  have HA := keepG (fun (wr : World) (hc : Below w.heap.size w wr) => ha.below hc (Nat.le_refl _))
  have HB := keepG (fun (wr : World) (hc : Below w.heap.size w wr) => hb.below hc (Nat.le_refl _))
  obtain ⟨a1, c1, ev1, hl1, hm1⟩ := ha.shape
  obtain ⟨a2, c2, ev2, hl2, hm2⟩ := hb.shape
  subst ev1 ev2
  have hAl : A.length ≤ 9223372036854775807 := by omega
  clear ha hb
  go_enter Try.func19, Try.ntmps19
  go_wp2
  go_loopw [5] (fun i wr => ∃ j : Nat, j ≤ A.length ∧ i = .int .i64 j ∧ Hid (Below w.heap.size w wr)) (fun i _ => A.length - (intOf i).toNat)
  case atStart => exact ⟨0, by omega, rfl, Below.refl _ _⟩
  case round =>
    obtain ⟨j, hj, rfl, HBW⟩ := hrel
    rename World => wr
    by_cases hlt : j < A.length
    · have hltI : (j : Int) < A.length := by omega
      obtain ⟨p1, o1, ev1, hat1⟩ := ppAt (HA.out wr HBW.out) hlt
      obtain ⟨p2, o2, ev2, hat2⟩ := ppAt (HB.out wr HBW.out) hlt
      subst ev1 ev2
      obtain ⟨t, HT⟩ : ∃ t, Hid (A.getD j Pp.nil = t) := ⟨_, rfl⟩
      obtain ⟨d0, d1⟩ := hat1 j hlt t HT.out
      obtain ⟨e0, e1⟩ := hat2 j hlt t HT.out
      obtain ⟨qk, qv⟩ := t
      simp only at d0 d1 e0 e1
      clear hat1 hat2
      have HBd := keepG (below_drG HBW.out)
      go_wp2
      refine wp_region_held_drew (S := fun w' => (w'.cell? ⟨p1, o1 + j * 2, none⟩ = some (.int .u64 qk) ∧ w'.cell? ⟨p1, o1 + j * 2 + 1, none⟩ = some (.int .u64 qv)) ∧ w'.cell? ⟨p2, o2 + j * 2, none⟩ = some (.int .u64 qk) ∧ w'.cell? ⟨p2, o2 + j * 2 + 1, none⟩ = some (.int .u64 qv)) (by kernel_rfl) ⟨⟨d0, d1⟩, e0, e1⟩ (fun hHeld => ?_)
      refine tkGo [0, 1, 2, 3, 4, 5, 6, 7, 8] ?_
      repeat (refine tkOne (v := ?_) rfl (by kernel_rfl) (by kernel_rfl) (by kernel_rfl) (fun _ _ _ h => h) (by assumption) (by rfl) ?_ ?_; rotate_left; (intro wy hSw; (try dsimp only at hSw); go_simp; (first | done | with_reducible rfl)); try simp only [Act.put, List.getElem_toArray, List.getElem_cons_zero, List.getElem_cons_succ, List.setIfInBounds_toArray, List.set_cons_zero, List.set_cons_succ])
      refine tkEnd ?_
      refine wpAnyH_done (by kernel_rfl) ?_ _
      clear hHeld
      go_wp2
      go_roundw
      case rel => exact ⟨j + 1, by omega, by go_num, HBd.out⟩
      case measure => simp [intOf]; omega
    · have hltI : ¬ (j : Int) < A.length := by omega
      go_wp2
      go_ret
      exact ⟨rfl, HBW.out⟩
set_option maxHeartbeats 6400000 in
/-- Equal replies are alike. -/
theorem walike {p : Ry} {va vb : Value} (ha : SeesG ppC 2 Pp.nil w va p.ps) (hb : SeesG ppC 2 Pp.nil w vb p.ps) : Calls Try.prog 15 #[rpV p va, rpV p vb] w fun e w' => e = .returned (.bool true) ∧ Below w.heap.size w w' := by
  obtain ⟨a1, c1, ev1, hl1, hm1⟩ := ha.shape
  obtain ⟨a2, c2, ev2, hl2, hm2⟩ := hb.shape
  subst ev1 ev2
  obtain ⟨q, x, ps⟩ := p
  obtain ⟨qf, qt, qw, qm, qo, qk, qv⟩ := q
  obtain ⟨xE, xf, xv, xo, xk, xu⟩ := x
  simp only at ha hb hl1 hl2
  obtain ⟨X, HX, hbX, HPX⟩ : ∃ X, Hid (w.alloc (.cells (rpC ⟨⟨qf, qt, qw, qm, qo, qk, qv⟩, ⟨xE, xf, xv, xo, xk, xu⟩, ps⟩ (.slice a1 ps.length c1)).toArray 50) = X) ∧ Below w.heap.size w X ∧ Hid (Hp X w.heap.size 50 (rpC ⟨⟨qf, qt, qw, qm, qo, qk, qv⟩, ⟨xE, xf, xv, xo, xk, xu⟩, ps⟩ (.slice a1 ps.length c1))) := ⟨_, rfl, below_allocG _ _, Hp.new w _ _⟩
  obtain ⟨Y, HY, hbY, HPY⟩ : ∃ Y, Hid (X.alloc (.cells (rpC ⟨⟨qf, qt, qw, qm, qo, qk, qv⟩, ⟨xE, xf, xv, xo, xk, xu⟩, ps⟩ (.slice a2 ps.length c2)).toArray 50) = Y) ∧ Below X.heap.size X Y ∧ Hid (Hp Y X.heap.size 50 (rpC ⟨⟨qf, qt, qw, qm, qo, qk, qv⟩, ⟨xE, xf, xv, xo, xk, xu⟩, ps⟩ (.slice a2 ps.length c2))) := ⟨_, rfl, below_allocG _ _, Hp.new X _ _⟩
  have HPX2 := keepG (HPX.out.below hbY HPX.out.lt)
  have hbw := hbX.trans (hbY.mono hbX.size)
  have HSA := keepG (ha.below hbw (Nat.le_refl _))
  have HSB := keepG (hb.below hbw (Nat.le_refl _))
  have HBW := keepG hbw
  clear ha hb hbX hbY hbw HPX HPY HPX2
  unfold rpV
  go_enter Try.func15, Try.ntmps15
  go_wp2_with (first
    | (go_at_call 19; rw [HX.out, HY.out]; go_must (refine (wpairs22 HSA.out HSB.out).mono ?_); rintro e w3 ⟨rfl, hb3⟩; go_must (have HB3 := keepG (HBW.out.trans (hb3.mono HBW.out.size)); clear hb3)))
  go_ret
  exact ⟨rfl, HB3.out⟩
end
theorem lit_rts (w : World) (qs : List Rt) (hl : qs.length ≤ 4194304) : SeesG rtC 7 Rt.nil (w.alloc (.cells (flatG rtC qs).toArray 45)) (.slice (some ⟨w.heap.size, 0, none⟩) qs.length qs.length) qs := SeesG.lit rtC_len Rt.nil w _ qs _ _ rfl rfl hl
theorem ft_litO {w : World} {k l c : Nat} : ftV (.slice (some ⟨w.heap.size, 0, none⟩) l c) k → w.heap.size ≤ k := fun e => by
  have : w.heap.size = k := Option.some.inj e
  omega
set_option maxHeartbeats 6400000 in
theorem awake22_any (w : World) : Calls Try.prog 7 #[] w fun e w' => e = .returned (.bool true) ∧ Below w.heap.size w w' := by
  obtain ⟨o1, HN⟩ : ∃ o1, Hid (newO 0 2 [(0, 1)] = some o1) := ⟨_, rfl⟩
  have ho1 : o1 = On.new 0 2 [(false, 1)] := by
    have := HN.out
    injection this with this
    rw [← this]
    rfl
  have HQ1 : Hid (o1.send [⟨5, 9, false, 0, 2, 0, 7⟩, ⟨6, 0, true, 0, 0, 0, 0⟩] = (0, ⟨0, 2, [(false, 1)], [([], [])], [⟨5, 9, false, 0, 2, 0, 7⟩, ⟨6, 0, true, 0, 0, 0, 0⟩], false⟩)) := by
    show _ = _
    rw [ho1]
    rfl
  have HQ2 : Hid ((⟨0, 2, [(false, 1)], [([], [])], [⟨5, 9, false, 0, 2, 0, 7⟩, ⟨6, 0, true, 0, 0, 0, 0⟩], false⟩ : On).step = (⟨⟨5, 9, false, 0, 2, 0, 7⟩, ⟨0, false, 0, false, 0, 0⟩, []⟩, true, ⟨0, 2, [(false, 1)], [([⟨0, 7⟩], [])], [⟨6, 0, true, 0, 0, 0, 0⟩], false⟩)) := by show _ = _; rfl
  have HQ3 : Hid ((⟨0, 2, [(false, 1)], [([⟨0, 7⟩], [])], [⟨6, 0, true, 0, 0, 0, 0⟩], false⟩ : On).step = (⟨⟨6, 0, true, 0, 0, 0, 0⟩, Rq.none, [⟨0, 7⟩]⟩, true, ⟨0, 2, [(false, 1)], [([⟨0, 7⟩], [])], [], false⟩)) := by show _ = _; rfl
  have HZ0 : Hid (o1.ln.length = 0) := by show _ = _; rw [ho1]; rfl
  clear ho1
  go_enter Try.func7, Try.ntmps7
  go_wp2_with (first
    | (go_at_call 8; go_must (refine (lznew_ok (w0 := w) 0 2 (es := [(0, 1)]) (below_allocG w _) (SeesG.lit dfC_len (0, 0) w 74 [(0, 1)] _ 1 rfl rfl (by simp)) HN).mono ?_); rintro e w1 ⟨b, F, rfl, hL, _, _⟩; go_must (have HL := keepG hL; obtain ⟨Z, HZ, hbZ, HSZ⟩ : ∃ Z, Hid (w1.alloc (.cells #[.int .i64 5, .int .i64 9, .bool false, .int .i64 0, .int .i64 2, .int .u64 0, .int .u64 7, .int .i64 6, .int .i64 0, .bool true, .int .i64 0, .int .i64 0, .int .u64 0, .int .u64 0] 45) = Z) ∧ Below w1.heap.size w1 Z ∧ Hid (SeesG rtC 7 Rt.nil Z (.slice (some ⟨w1.heap.size, 0, none⟩) 2 2) [⟨5, 9, false, 0, 2, 0, 7⟩, ⟨6, 0, true, 0, 0, 0, 0⟩]) := ⟨_, rfl, below_allocG _ _, lit_rts w1 [⟨5, 9, false, 0, 2, 0, 7⟩, ⟨6, 0, true, 0, 0, 0, 0⟩] (by simp)⟩; have HLZ := keepG (hL.below hbZ); have HAZ := keepG (hL.aptN (α := Rt) (ws := [⟨5, 9, false, 0, 2, 0, 7⟩, ⟨6, 0, true, 0, 0, 0, 0⟩]) (v := .slice (some ⟨w1.heap.size, 0, none⟩) 2 2) (fun k e => ft_litO e)); clear hL hbZ))
    | (go_at_call 10; rw [HZ.out]; go_must (refine (HLZ.out.send (by show _ ≤ _; rw [HZ0.out]; simp) HSZ.out (by intro q hq; simp at hq; rcases hq with e | e <;> subst e <;> exact ⟨by decide, by decide⟩) HAZ.out HQ1).mono ?_); rintro e w2 ⟨rfl, F2, hL2, _⟩; go_must (have HL2 := keepG hL2; clear hL2))
    | (have hq := HL3; clear hq; go_at_call 13; go_must (refine (HLY.out.step (by show _ ≤ _; simp) HQ3).mono ?_); rintro e w4 ⟨a4, c4, rfl, F4, hL4, hn4, hr4, _⟩; go_must (have HL4 := keepG hL4; unfold rpV; obtain ⟨p4, cc4, ev, -, hp4, hc4, hm4, hat4⟩ := own_atG ppC_len Pp.nil hr4 (by simp); simp only [Value.slice.injEq, true_and] at ev; obtain ⟨rfl, rfl⟩ := ev; have g1 : w4.cell? ⟨p4, 1, none⟩ = some (.int .u64 7) := (hat4 0 (by simp) 1 (by decide)).1; have HP4 := keepG (HPY.out.chg hn4.chg (fun e => by have := HL3.out.lies _ e; omega)); have hl4 := HP4.out.lt; obtain ⟨W5, HW5, hb5, HP5⟩ : ∃ W5, Hid (w4.alloc (.cells (rpC ⟨⟨6, 0, true, 0, 0, 0, 0⟩, Rq.none, [⟨0, 7⟩]⟩ (.slice (some ⟨p4, 0, none⟩) 1 c4)).toArray 50) = W5) ∧ Below w4.heap.size w4 W5 ∧ Hid (Hp W5 w4.heap.size 50 (rpC ⟨⟨6, 0, true, 0, 0, 0, 0⟩, Rq.none, [⟨0, 7⟩]⟩ (.slice (some ⟨p4, 0, none⟩) 1 c4))) := ⟨_, rfl, below_allocG _ _, Hp.new w4 _ _⟩; have HP6 := keepG (HP4.out.below hb5 hl4); have x0 := HP6.out.cell (j := 0) rfl; have x1 := HP6.out.cell (j := 1) rfl; have z2 := HP5.out.cell (j := 2) rfl; have z13 := HP5.out.cell (j := 13) rfl; have g2 := (hb5.cell (p := ⟨p4, 1, none⟩) hp4).trans g1; have HL5 := keepG (HL4.out.below hb5); clear hL4 hr4 hn4 hat4 hb5 g1))
    | (go_at_call 13; go_must (refine (HL2.out.step (by show _ ≤ _; simp) HQ2).mono ?_); rintro e w3 ⟨a3, c3, rfl, F3, hL3, _, _, _⟩; go_must (have HL3 := keepG hL3; unfold rpV; obtain ⟨Y, HY, HLY, HPY⟩ : ∃ Y, Hid (w3.alloc (.cells (rpC ⟨⟨5, 9, false, 0, 2, 0, 7⟩, ⟨0, false, 0, false, 0, 0⟩, []⟩ (.slice a3 0 c3)).toArray 50) = Y) ∧ Hid (Lz w Y b F3 ⟨0, 2, [(false, 1)], [([⟨0, 7⟩], [])], [⟨6, 0, true, 0, 0, 0, 0⟩], false⟩) ∧ Hid (Hp Y w3.heap.size 50 (rpC ⟨⟨5, 9, false, 0, 2, 0, 7⟩, ⟨0, false, 0, false, 0, 0⟩, []⟩ (.slice a3 0 c3))) := ⟨_, rfl, hL3.below (below_allocG _ _), Hp.new w3 _ _⟩; clear hL3))
    | (rw [HW5.out])
    | (rw [HY.out]))
  go_ret
  exact ⟨rfl, HL5.out.be⟩
end Go.Proofs.Ytpbfgebecgikjaa
namespace Go.Proofs.Ytpbfgebecgikjaa
open Go.RowKit
set_option linter.unusedVariables false
set_option linter.unusedSimpArgs false
set_option maxRecDepth 100000
theorem newO_line {sh n : Int} {es : List (Int × Int)} {o : On} (h : newO sh n es = some o) : o.line [] = o ∧ o.over = false ∧ o.ln = [] ∧ o.st.length = es.length := by
  obtain ⟨_, _, _, ds, h1, rfl, _⟩ := newO_some h
  refine ⟨rfl, rfl, rfl, ?_⟩
  show (List.replicate ds.length Sr.nil).length = _
  rw [List.length_replicate]
  exact (allDf_some h1).1
theorem send_one {o : On} (ho : o.over = false) (l : List Rt) (q : Rt) : (o.line l).send [q] = if o.takes q = true then (0, o.line (l ++ [q])) else (2, o.line l) := by
  have ht : (o.line l).takes q = o.takes q := takes_same rfl rfl rfl q
  have ho' : (o.line l).over = false := ho
  unfold On.send
  rw [if_neg (by rw [ho']; decide)]
  simp only [List.all_cons, List.all_nil, Bool.and_true, ht]
  rfl
theorem send_all {o : On} (ho : o.over = false) (hl : o.ln = []) (qs : List Rt) : o.send qs = if qs.all o.takes = true then (0, o.line qs) else (2, o) := by
  unfold On.send
  rw [if_neg (by rw [ho]; decide), hl, List.nil_append]
theorem step_cons {o : On} {q : Rt} {r : List Rt} (h : o.ln = q :: r) : ∃ p o', o.step = (p, true, o') ∧ o'.ln = r ∧ o'.over = o.over ∧ o'.st.length = o.st.length := by
  refine ⟨_, _, by unfold On.step; rw [h], ?_, ?_, ?_⟩
  · unfold On.serve; split <;> rfl
  · unfold On.serve; split <;> rfl
  · unfold On.serve; split
    · rfl
    · simp
/-- Two owners, apart. -/
structure L2 (w0 w : World) (a b : Nat) (F G : Ft) (o p : On) : Prop where
  la : Lz w0 w a F o
  lb : Lz w0 w b G p
  fg : Apt F G
section
variable {w0 w w' : World} {a b : Nat} {F F' G G' : Ft} {o o' p p' : On}
theorem L2.below (h : L2 w0 w a b F G o p) (hb : Below w.heap.size w w') : L2 w0 w' a b F G o p := ⟨h.la.below hb, h.lb.below hb, h.fg⟩
theorem L2.goA (h : L2 w0 w a b F G o p) (hl : Lz w0 w' a F' o') (hn : Nx w w' F F') : L2 w0 w' a b F' G o' p := ⟨hl, h.lb.keeps hn.chg h.fg h.la.since, h.fg.next h.lb.lies hn⟩
theorem L2.goB (h : L2 w0 w a b F G o p) (hl : Lz w0 w' b G' p') (hn : Nx w w' G G') : L2 w0 w' a b F G' o p' := ⟨h.la.keeps hn.chg h.fg.symm h.lb.since, hl, (h.fg.symm.next h.la.lies hn).symm⟩
end
/-- The fourteen cells of a reply's box. -/
theorem rp_cells {w : World} {n : Nat} {p : Ry} {u : Value} (h : Hp w n 50 (rpC p u)) : (w.cell? ⟨n, 0, none⟩ = some (.int .i64 p.q.f) ∧ w.cell? ⟨n, 1, none⟩ = some (.int .i64 p.q.t) ∧ w.cell? ⟨n, 2, none⟩ = some (.bool p.q.wk) ∧ w.cell? ⟨n, 3, none⟩ = some (.int .i64 p.q.m) ∧ w.cell? ⟨n, 4, none⟩ = some (.int .i64 p.q.op) ∧ w.cell? ⟨n, 5, none⟩ = some (.int .u64 p.q.k) ∧ w.cell? ⟨n, 6, none⟩ = some (.int .u64 p.q.v)) ∧ w.cell? ⟨n, 7, none⟩ = some (.int .i64 p.x.E) ∧ w.cell? ⟨n, 8, none⟩ = some (.bool p.x.f) ∧ w.cell? ⟨n, 9, none⟩ = some (.int .u64 p.x.v) ∧ w.cell? ⟨n, 10, none⟩ = some (.bool p.x.o) ∧ w.cell? ⟨n, 11, none⟩ = some (.int .u64 p.x.k) ∧ w.cell? ⟨n, 12, none⟩ = some (.int .u64 p.x.u) ∧ w.cell? ⟨n, 13, none⟩ = some u :=
  ⟨⟨h.cell (j := 0) rfl, h.cell (j := 1) rfl, h.cell (j := 2) rfl, h.cell (j := 3) rfl, h.cell (j := 4) rfl, h.cell (j := 5) rfl, h.cell (j := 6) rfl⟩, h.cell (j := 7) rfl, h.cell (j := 8) rfl, h.cell (j := 9) rfl, h.cell (j := 10) rfl, h.cell (j := 11) rfl, h.cell (j := 12) rfl, h.cell (j := 13) rfl⟩
theorem filter_take {T : Rt → Bool} {qs : List Rt} {j : Nat} (hj : j < qs.length) : (qs.take (j + 1)).filter T = if T (qs.getD j Rt.nil) = true then (qs.take j).filter T ++ [qs.getD j Rt.nil] else (qs.take j).filter T := by
  rw [take_atR qs j hj, List.filter_append]
  by_cases h : T (qs.getD j Rt.nil) = true
  · rw [if_pos h, List.filter_cons_of_pos h]; rfl
  · rw [if_neg h, List.filter_cons_of_neg h]; simp
theorem drop_cons {qs : List Rt} {j : Nat} (hj : j < qs.length) : qs.drop j = qs.getD j Rt.nil :: qs.drop (j + 1) := by
  rw [List.drop_eq_getElem_cons hj]
  simp [List.getD, hj]
end Go.Proofs.Ytpbfgebecgikjaa
namespace Go.Proofs.Ytpbfgebecgikjaa
open Go.RowKit
set_option linter.unusedVariables false
set_option linter.unusedSimpArgs false
theorem splice_flat {α : Type} {f : α → List Value} {z : Nat} (hf : ∀ x, (f x).length = z) (x : α) : ∀ (xs : List α) {k : Nat}, k < xs.length → splice (flatG f xs) (k * z) (f x) = flatG f (xs.set k x)
  | [], k, h => by simp at h
  | y :: r, 0, _ => by
    have e : flatG f (y :: r) = f y ++ flatG f r := by simp [flatG]
    have e2 : flatG f ((y :: r).set 0 x) = f x ++ flatG f r := by simp [flatG]
    rw [e, e2, Nat.zero_mul, splice_ahead _ _ _ _ (by rw [hf, hf]; omega), splice_all _ _ (by rw [hf, hf])]
  | y :: r, k + 1, h => by
    have e : flatG f (y :: r) = f y ++ flatG f r := by simp [flatG]
    have e2 : flatG f ((y :: r).set (k + 1) x) = f y ++ flatG f (r.set k x) := by simp [flatG]
    have e3 : (k + 1) * z = (f y).length + k * z := by rw [hf, Nat.add_mul, Nat.one_mul, Nat.add_comm]
    rw [e, e2, e3, splice_behind, splice_flat hf x r (by simpa using h)]
theorem own_sets {B : Nat} {e : TypeId} {z g n cap : Nat} : ∀ (vs : List Value) {w : World} {xs : List Value} (o : Nat), w.ownsRow B e z (.slice (some ⟨g, 0, none⟩) n cap) n xs → (w.setCells g o vs).ownsRow B e z (.slice (some ⟨g, 0, none⟩) n cap) n (splice xs o vs)
  | [], w, xs, o, h => h
  | v :: r, w, xs, o, h => own_sets r (o + 1) (h.stored o v).1
theorem own_putG {α : Type} {f : α → List Value} {z : Nat} (hf : ∀ x, (f x).length = z) {w : World} {B : Nat} {e : TypeId} {g n cap : Nat} {xs : List α} (hn : xs.length = n) (h : w.ownsRow B e z (.slice (some ⟨g, 0, none⟩) n cap) n (flatG f xs)) {k : Nat} (hk : k < xs.length) (x : α) : (w.setCells g (k * z) (f x)).ownsRow B e z (.slice (some ⟨g, 0, none⟩) n cap) n (flatG f (xs.set k x)) := by
  have := own_sets (f x) (k * z) h
  rw [splice_flat hf x xs hk] at this
  exact this
end Go.Proofs.Ytpbfgebecgikjaa
namespace Go.Proofs.Ytpbfgebecgikjaa
open Go.RowKit
set_option linter.unusedVariables false
set_option linter.unusedSimpArgs false
set_option maxRecDepth 100000
theorem infoDf22 : (Try.prog.info? 74).map (fun i => (i.zero, i.size, i.bytes)) = some (some (.agg #[.int .i64 0, .int .i64 0]), 2, 16) := by kernel_rfl
theorem df_flat (es : List (Int × Int)) : ∀ u ∈ flatG dfC es, u.oneCell' = true := by
  intro u hu
  obtain ⟨x, _, h2⟩ := List.mem_flatMap.1 hu
  simp only [dfC, List.mem_cons, List.not_mem_nil, or_false] at h2
  rcases h2 with rfl | rfl <;> rfl
/-- Both owners. -/
structure Pw (w0 w : World) (a b : Nat) (F : Ft) (vm va : Value) (ps : List Nat) (S : List Lt) (G : Nat → Ft) (o1 o2 : On) (old : List Rt) : Prop where
  la : Lz w0 w a F o1
  ld : Dw w w0.heap.size b vm va ps S G o2 old
  ap : Apt F (footW b vm va ps.length G)
  sd : Since w0 (footW b vm va ps.length G)
section
variable {w0 w w' : World} {a b : Nat} {F F' : Ft} {vm va va' : Value} {ps : List Nat} {S S' : List Lt} {G G' : Nat → Ft} {o1 o2 o1' o2' : On} {old old' : List Rt}
theorem Pw.below (h : Pw w0 w a b F vm va ps S G o1 o2 old) (hb : Below w.heap.size w w') : Pw w0 w' a b F vm va ps S G o1 o2 old := ⟨h.la.below hb, h.ld.below hb, h.ap, h.sd⟩
theorem Pw.goL (h : Pw w0 w a b F vm va ps S G o1 o2 old) (hl : Lz w0 w' a F' o1') (hn : Nx w w' F F') : Pw w0 w' a b F' vm va ps S G o1' o2 old := ⟨hl, h.ld.chg hn.chg h.ap, h.ap.next h.ld.lies hn, h.sd⟩
theorem Pw.goD (h : Pw w0 w a b F vm va ps S G o1 o2 old) (hd : Dw w' w0.heap.size b vm va' ps S' G' o2' old') (hn : Nx w w' (footW b vm va ps.length G) (footW b vm va' ps.length G')) : Pw w0 w' a b F vm va' ps S' G' o1 o2' old' :=
  ⟨h.la.keeps hn.chg h.ap.symm h.sd, hd, (h.ap.symm.next h.la.lies hn).symm, h.sd.next h.la.be.size hn⟩
theorem Pw.keeps (h : Pw w0 w a b F vm va ps S G o1 o2 old) {K : Ft} (hc : Chg w w' K) (h1 : Apt K F) (h2 : Apt K (footW b vm va ps.length G)) (h3 : Since w0 K) : Pw w0 w' a b F vm va ps S G o1 o2 old := ⟨h.la.keeps hc h1 h3, h.ld.chg hc h2, h.ap, h.sd⟩
theorem Pw.new (h : Pw w0 w a b F vm va ps S G o1 o2 old) {n : Nat} (hn : w.heap.size ≤ n) : ¬ F n ∧ ¬ footW b vm va ps.length G n := ⟨fun e => by have := h.la.lies n e; omega, fun e => by have := h.ld.lies n e; omega⟩
theorem Dw.low' {B B' : Nat} (h : Dw w B b vm va ps S G o1 old) (hB : B' ≤ B) : Dw w B' b vm va ps S G o1 old := ⟨h.hp, own_lowG h.maps hB, own_lowG h.all hB, h.lp, h.lS, h.inv, ⟨fun i hi => (h.fam.ob i hi).lowD hB, h.fam.li, h.fam.ap⟩, h.cnt⟩
/-- The document's Step, whatever waits. -/
theorem dstep_any {B : Nat} {p : Ry} {r : Bool} (h : Dw w B b vm va ps S G o1 old) (hk : o1.Ok) (hB : B ≤ w.heap.size) (hz : (old ++ o1.ln).length ≤ 1000000) (hc : old.length ≤ 3000) (HQ : Hid (o1.step = (p, r, o2))) : Calls Try.prog 14 #[.pointer (some ⟨b, 0, none⟩)] w fun e w' => ∃ x c, e = .returned (.tuple #[rpV p (.slice x p.ps.length c), .bool r]) ∧ ∃ S' G' old', Dw w' B b vm va ps S' G' o2 old' ∧ Nx w w' (footW b vm va ps.length G) (footW b vm va ps.length G') ∧ RoPp w' w.heap.size (.slice x p.ps.length c) p.ps ∧ old'.length ≤ old.length + 1 ∧ old' ++ o2.ln = old ++ o1.ln ∧ o2.st.length = o1.st.length := by
  have hq := HQ.out
  unfold On.step at hq
  cases hl : o1.ln with
  | nil =>
    rw [hl] at hq
    injection hq with e1 e2
    injection e2 with e2 e3
    subst e1 e2 e3
    refine (dstep_none h hl (by rw [hl] at hz; simpa using hz)).mono ?_
    rintro e w' ⟨rfl, g1, g2⟩
    exact ⟨none, 0, rfl, S, G, old, g1, Nx.below g2, World.ownsRow_nil _ _ _ _, by omega, by rw [hl], rfl⟩
  | cons q l =>
    rw [hl] at hq
    injection hq with e1 e2
    injection e2 with e2 e3
    refine (dstep_some h hk hB hz hc hl).mono ?_
    rintro e w' ⟨u, rfl, S', G', g1, g2, g3⟩
    rw [e3] at g1
    rw [e1] at g3
    obtain ⟨x, c, ev⟩ := own_shape g3
    subst ev
    refine ⟨x, c, by rw [e1, e2], S', G', old ++ [q], g1, g2, g3, by simp, ?_, ?_⟩
    · have : o2.ln = l := by rw [← e3]; unfold On.serve; split <;> rfl
      rw [this]; simp
    · rw [← e3]
      unfold On.serve
      split
      · rfl
      · simp
/-- The line, cut out of all that was sent. -/
theorem cut_line {B : Nat} {l : List Rt} (h : RoRt w B va (old ++ l)) : ∃ v2, (∀ wx, (Instr.slice 34 va (some (.int .i64 old.length)) none none).run Try.prog wx = .ok v2 wx) ∧ ∀ wx, SeesG rtC 7 Rt.nil wx va (old ++ l) → SeesG rtC 7 Rt.nil wx v2 l := by
  obtain ⟨x, cap, rfl, hlc, hmx⟩ := h.sees.shape
  have hz : ∀ wx, (Go.sizeOf 45).run Try.prog wx = .ok 7 wx := fun wx => by simp [Go.sizeOf]; rfl
  have hl : (old ++ l).length = old.length + l.length := List.length_append
  rw [hl] at hlc
  refine ⟨.slice (if cap = old.length then x else x.map (fun ad => ad.add (old.length * 7))) l.length (cap - old.length), fun wx => ?_, fun wx hs => ?_⟩
  · have h0 : (0 : Int) ≤ old.length ∧ (old.length : Int) ≤ ((old ++ l).length : Nat) := by omega
    have e : (old ++ l).length - old.length = l.length := by omega
    obtain ⟨N, hN⟩ : ∃ N, (old ++ l).length = N := ⟨_, rfl⟩
    rw [hN] at h0 e ⊢
    simp [Instr.slice, run_underlying Try.underlying34, Instr.sliceBounds, run_sliceBound, h0, hz, e]
  · obtain ⟨a', cap', ev, h1, h2, h3, h4⟩ := hs
    injection ev with e1 e2 e3
    subst e1 e3
    refine ⟨_, _, rfl, by omega, by omega, fun hn => ?_, fun hne => ?_⟩
    · by_cases hc : cap = old.length
      · omega
      · rw [if_neg hc] at hn
        cases x with
        | none => have := h3 rfl; omega
        | some ad => cases hn
    · have hlp := List.length_pos_iff.2 hne
      have hc : ¬ cap = old.length := by omega
      obtain ⟨p, off, rfl, hpl, hat⟩ := h4 (fun e => by rw [e] at hl; simp at hl; omega)
      refine ⟨p, off + old.length * 7, by rw [if_neg hc]; simp [Addr.add], hpl, fun k hk j hj => ?_⟩
      have := hat (old.length + k) (by omega) j hj
      rw [show (old ++ l).getD (old.length + k) Rt.nil = l.getD k Rt.nil by simp [List.getD, List.getElem?_append_right (show old.length ≤ old.length + k by omega)]] at this
      rw [← this]
      congr 2
      omega
end
end Go.Proofs.Ytpbfgebecgikjaa
