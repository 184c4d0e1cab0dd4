
/-
  The landed shard of layer 15: a book or an LRU behind an interface. Condition: it lies where the pointer says.
-/
import Derived.Test.YtpbfgebecgikjaaC15Plain
import Derived.Test.YtpbfgebecgikjaaC15Fam
import Derived.Test.YtpbfgebecgikjaaW14Two
namespace Go.Proofs.Ytpbfgebecgikjaa
open Go.RowKit
set_option linter.unusedVariables false
set_option linter.unusedSimpArgs false
set_option maxRecDepth 100000

/-- The landed shard: the interface's value. -/
def Sh (w : World) (B : Nat) (v : Value) (κ : Bool) (cap : Nat) (s : Sr) (F : Ft) : Prop :=
  (κ = false ∧ ∃ b, v = .iface 105 (.pointer (some ⟨b, 0, none⟩)) ∧ Bo w B b cap s.1 F) ∨
  (κ = true ∧ ∃ l, v = .iface 108 (.pointer (some ⟨l, 0, none⟩)) ∧ Lu w B l cap s.1 s.2 F)
section
variable {w w' : World} {B cap : Nat} {v : Value} {κ : Bool} {s : Sr} {F G : Ft}
theorem Sh.lies (h : Sh w B v κ cap s F) : Lies w F := by
  rcases h with ⟨_, b, _, hb⟩ | ⟨_, l, _, hb⟩
  · exact hb.lies
  · exact hb.lies
theorem Sh.keeps (h : Sh w B v κ cap s F) (hc : Chg w w' G) (ha : Apt G F) : Sh w' B v κ cap s F := by
  rcases h with ⟨e, b, ev, hb⟩ | ⟨e, l, ev, hb⟩
  · exact .inl ⟨e, b, ev, hb.keeps hc ha⟩
  · exact .inr ⟨e, l, ev, hb.keeps hc ha⟩
theorem Sh.below (h : Sh w B v κ cap s F) (hb : Below w.heap.size w w') : Sh w' B v κ cap s F := h.keeps (Chg.of_below (S := fun _ => False) hb) (fun _ e => e.elim)
theorem Sh.other (h : Sh w B v κ cap s F) {n : Nat} {t : TypeId} {cs : List Value} (hp : Hp w n t cs) (h1 : t ≠ 116) (h2 : t ≠ 114) (h3 : t ≠ 80) (h4 : t ≠ 41) : ¬ F n := by
  rcases h with ⟨_, b, _, hb⟩ | ⟨_, l, _, hb⟩
  · exact hb.other hp h2 h3
  · exact hb.other hp h1 h2 h3 h4
theorem Sh.low {B' : Nat} (h : Sh w B v κ cap s F) (hB : B' ≤ B) : Sh w B' v κ cap s F := by
  rcases h with ⟨e, b, ev, u, hb, hF⟩ | ⟨e, l, ev, b, u, ur, hb, hF⟩
  · exact .inl ⟨e, b, ev, u, ⟨hb.hp, own_lowG hb.row hB⟩, hF⟩
  · exact .inr ⟨e, l, ev, b, u, ur, ⟨hb.hp, ⟨hb.bk.hp, own_lowG hb.bk.row hB⟩, own_lowG hb.rc hB⟩, hF⟩
end
/-- An empty book behind the interface. -/
theorem lplain_ok (n : Nat) (h1 : 1 ≤ n) (h2 : n ≤ 16) (w : World) : Calls Try.prog 32 #[.int .i64 n] w fun e w' => ∃ v F, e = .returned (.tuple #[v, .int .i64 0]) ∧ Sh w' w.heap.size v false n Sr.nil F ∧ Since w F ∧ Below w.heap.size w w' := by
  go_enter Try.func32, Try.ntmps32
  go_wp2_with (go_at_call 38; go_must (refine (lnew_ok n h1 h2 w).mono ?_); rintro e w1 ⟨rfl, hp1, hb1, hz1⟩; go_must (have HP1 := keepG hp1; have HZ1 := keepG hz1; clear hp1 hz1))
  go_ret2
  refine ⟨_, _, rfl, .inl ⟨rfl, w.heap.size, rfl, .slice none 0 0, ⟨HP1.out, World.ownsRow_nil _ _ _ _⟩, rfl⟩, fun k hk => ?_, hb1⟩
  rcases hk with e | e
  · omega
  · cases e
theorem lplain_no (c : Int) (hc : c < 1 ∨ 16 < c) (w : World) : Calls Try.prog 32 #[.int .i64 c] w fun e w' => e = .returned (.tuple #[.nilIface, .int .i64 2]) ∧ w = w' := by
  go_enter Try.func32, Try.ntmps32
  go_wp2_with (go_at_call 38; go_must (refine (lnew_no c hc w).mono ?_); rintro e w1 ⟨rfl, rfl⟩)
  go_ret2
  first | done | exact ⟨rfl, rfl⟩
/-- An empty LRU behind the interface. -/
theorem lbounded_ok (n : Nat) (h1 : 1 ≤ n) (h2 : n ≤ 16) (w : World) : Calls Try.prog 33 #[.int .i64 n] w fun e w' => ∃ v F, e = .returned (.tuple #[v, .int .i64 0]) ∧ Sh w' w.heap.size v true n Sr.nil F ∧ Since w F ∧ Below w.heap.size w w' := by
  go_enter Try.func33, Try.ntmps33
  go_wp2_with (go_at_call 39; go_must (refine (lunew_ok n h1 h2 w).mono ?_); rintro e w1 ⟨l, F, rfl, hL1, hs1, hb1⟩; go_must (have HL1 := keepG hL1; have HS1 := keepG hs1; clear hL1 hs1))
  go_ret2
  exact ⟨_, F, rfl, .inr ⟨rfl, l, rfl, HL1.out⟩, HS1.out, hb1⟩
theorem lbounded_no (c : Int) (hc : c < 1 ∨ 16 < c) (w : World) : Calls Try.prog 33 #[.int .i64 c] w fun e w' => e = .returned (.tuple #[.nilIface, .int .i64 2]) ∧ w = w' := by
  go_enter Try.func33, Try.ntmps33
  go_wp2_with (go_at_call 39; go_must (refine (llnew_no c hc w).mono ?_); rintro e w1 ⟨rfl, rfl⟩)
  go_ret2
  first | done | exact ⟨rfl, rfl⟩
theorem lmake_book (n : Nat) (h1 : 1 ≤ n) (h2 : n ≤ 16) (w : World) : Calls Try.prog 23 #[.agg #[.int .i64 0, .int .i64 n]] w fun e w' => ∃ v F, e = .returned (.tuple #[v, .int .i64 0]) ∧ Sh w' w.heap.size v false n Sr.nil F ∧ Since w F ∧ Below w.heap.size w w' := by
  obtain ⟨X, HX, hbX⟩ : ∃ X, Hid (w.alloc (.cells #[.int .i64 0, .int .i64 n] 74) = X) ∧ Below w.heap.size w X := ⟨_, rfl, below_allocG _ _⟩
  have hzX := hbX.size
  go_enter Try.func23, Try.ntmps23
  go_wp2_with (go_at_call 32; rw [HX.out]; go_must (refine (lplain_ok n h1 h2 X).mono ?_); rintro e w1 ⟨v, F, rfl, hL1, hs1, hb1⟩; go_must (have HL1 := keepG hL1; have HS1 := keepG hs1; clear hL1 hs1))
  go_ret2
  exact ⟨v, F, rfl, HL1.out.low hzX, fun k hk => Nat.le_trans hzX (HS1.out k hk), hbX.trans (hb1.mono hzX)⟩
theorem lmake_lru (n : Nat) (h1 : 1 ≤ n) (h2 : n ≤ 16) (w : World) : Calls Try.prog 23 #[.agg #[.int .i64 1, .int .i64 n]] w fun e w' => ∃ v F, e = .returned (.tuple #[v, .int .i64 0]) ∧ Sh w' w.heap.size v true n Sr.nil F ∧ Since w F ∧ Below w.heap.size w w' := by
  obtain ⟨X, HX, hbX⟩ : ∃ X, Hid (w.alloc (.cells #[.int .i64 1, .int .i64 n] 74) = X) ∧ Below w.heap.size w X := ⟨_, rfl, below_allocG _ _⟩
  have hzX := hbX.size
  go_enter Try.func23, Try.ntmps23
  go_wp2_with (go_at_call 33; rw [HX.out]; go_must (refine (lbounded_ok n h1 h2 X).mono ?_); rintro e w1 ⟨v, F, rfl, hL1, hs1, hb1⟩; go_must (have HL1 := keepG hL1; have HS1 := keepG hs1; clear hL1 hs1))
  go_ret2
  exact ⟨v, F, rfl, HL1.out.low hzX, fun k hk => Nat.le_trans hzX (HS1.out k hk), hbX.trans (hb1.mono hzX)⟩
theorem meth_bookDo (fuel : Nat) (a : Addr) (w : World) : (method (fuel + 1) 105 (.pointer (some a)) "Do").run Try.prog w = .ok (59, .pointer (some a)) w := by kernel_rfl
theorem meth_bookPairs (fuel : Nat) (a : Addr) (w : World) : (method (fuel + 1) 105 (.pointer (some a)) "Pairs").run Try.prog w = .ok (61, .pointer (some a)) w := by kernel_rfl
theorem meth_lruDo (fuel : Nat) (a : Addr) (w : World) : (method (fuel + 1) 108 (.pointer (some a)) "Do").run Try.prog w = .ok (72, .pointer (some a)) w := by kernel_rfl
theorem meth_parts {P : Program} {t : TypeId} {name : String} {pth : List FieldStep} {fn : Option (FuncId × Bool)} (h : (P.info? t).bind (fun i => (i.methods.find? (fun x => x.name == name)).map (fun m => (m.path.toList, m.func))) = some (pth, fn)) : ∃ i m, P.info? t = some i ∧ i.methods.find? (fun x => x.name == name) = some m ∧ m.path.toList = pth ∧ m.func = fn := by
  cases hi : P.info? t with
  | none => rw [hi] at h; cases h
  | some i =>
    rw [hi] at h
    cases hm : i.methods.find? (fun x => x.name == name) with
    | none => simp [hm] at h
    | some m =>
      simp [hm] at h
      exact ⟨i, m, rfl, hm, h.1, h.2⟩
/-- A method of the book that an LRU has. -/
theorem meth_lru {name : String} {fn : FuncId} (hq : (Try.prog.info? 108).bind (fun i => (i.methods.find? (fun x => x.name == name)).map (fun m => (m.path.toList, m.func))) = some ([⟨116, 0, true⟩], some (fn, true))) (fuel : Nat) {l : Nat} {a : Addr} {w : World} (h : w.cell? ⟨l, 0, none⟩ = some (.pointer (some a))) : (method (fuel + 1) 108 (.pointer (some ⟨l, 0, none⟩)) name).run Try.prog w = .ok (fn, .pointer (some a)) w := by
  obtain ⟨i, m, hi, hm, hpt, hf⟩ := meth_parts (P := Try.prog) (t := 108) (name := name) (pth := [⟨116, 0, true⟩]) (fn := some (fn, true)) hq
  have hfp : ∀ f : Field, f.type = 105 → f.offset = 0 → (fieldPlace ⟨l, 0, none⟩ f).run Try.prog w = .ok ⟨l, 0, none⟩ w := by
    rintro ⟨n1, t1, o1, e1, g1, p1, b1⟩ rfl rfl
    kernel_rfl
  simp [method, typeInfo, hi, hm, hpt, hf, follow, run_underlying Try.underlying116, asAddr, Place.get]
  rw [hfp _ rfl rfl]
  simp [Result.andThen, receiverAt, run_underlying Try.underlying105, Place.get, loadVar, Try.isAgg105, h]
theorem meth_lruPairs (fuel : Nat) {l : Nat} {a : Addr} {w : World} (h : w.cell? ⟨l, 0, none⟩ = some (.pointer (some a))) : (method (fuel + 1) 108 (.pointer (some ⟨l, 0, none⟩)) "Pairs").run Try.prog w = .ok (61, .pointer (some a)) w := meth_lru (by kernel_rfl) fuel h
/-- What a call through the interface comes to. -/
def Via (w : World) (v : Value) (name : String) (f : FuncId) (x : Value) : Prop := ∃ t u, v = .iface t u ∧ (∀ fuel, (method (fuel + 1) t u name).run Try.prog w = .ok (f, x) w) ∧ ∀ xs w', (callFunc f xs).run Try.prog w' = .ok (.enter f xs) w'
section
variable {w : World} {B cap : Nat} {v : Value} {κ : Bool} {s : Sr} {F : Ft}
/-- Do of a shard. -/
theorem Sh.do_any (op key val : Int) (h : Sh w B v κ cap s F) (hi : InvSh κ cap s) (hc16 : cap ≤ 16) (hB : B ≤ w.heap.size) {q : Rq} {s' : Sr} (HQ : Hid (doSh κ cap s op key val = (q, s'))) :
    ∃ f x, Via w v "Do" f x ∧ Calls Try.prog f #[x, .int .i64 op, .int .u64 key, .int .u64 val] w fun e w' => e = .returned (resG q.E q.f q.v q.o q.k q.u) ∧ ∃ F', Sh w' B v κ cap s' F' ∧ Nx w w' F F' := by
  have hln := hi.len
  rcases h with ⟨rfl, b, rfl, hb⟩ | ⟨rfl, l, rfl, hb⟩
  · refine ⟨_, _, ⟨_, _, rfl, fun fuel => meth_bookDo fuel ⟨b, 0, none⟩ w, fun _ _ => by kernel_rfl⟩, (hb.do_any op key val hln hc16 hB).mono ?_⟩
    rintro e w' ⟨rfl, F', g1, g2⟩
    have hq := HQ.out
    unfold doSh at hq
    rw [if_neg (by decide)] at hq
    injection hq with hq1 hq2
    subst hq1 hq2
    exact ⟨rfl, F', .inl ⟨rfl, b, rfl, g1⟩, g2⟩
  · have hq := HQ.out
    unfold doSh at hq
    rw [if_pos rfl] at hq
    refine ⟨_, _, ⟨_, _, rfl, fun fuel => meth_lruDo fuel ⟨l, 0, none⟩ w, fun _ _ => by kernel_rfl⟩, (hb.do_as (S' := s'.1) (R' := s'.2) hq (hi.lru rfl) hc16 hB).mono ?_⟩
    rintro e w' ⟨rfl, F', g1, g2⟩
    exact ⟨rfl, F', .inr ⟨rfl, l, rfl, g1⟩, g2⟩
theorem Sh.pairs (h : Sh w B v κ cap s F) (hi : InvSh κ cap s) (hc16 : cap ≤ 16) :
    ∃ f x, Via w v "Pairs" f x ∧ Calls Try.prog f #[x] w fun e w' => ∃ u, e = .returned u ∧ w'.ownsRow w.heap.size 80 2 u s.1.length (flatG ppC s.1) ∧ Below w.heap.size w w' := by
  have hln := hi.len
  rcases h with ⟨rfl, b, rfl, v, hb, rfl⟩ | ⟨rfl, l, rfl, hb⟩
  · exact ⟨_, _, ⟨_, _, rfl, fun fuel => meth_bookPairs fuel ⟨b, 0, none⟩ w, fun _ _ => by kernel_rfl⟩, lpairs_any hb (by omega)⟩
  · obtain ⟨d, u, g1, g2⟩ := hb.book
    exact ⟨_, _, ⟨_, _, rfl, fun fuel => meth_lruPairs fuel g1, fun _ _ => by kernel_rfl⟩, lpairs_any g2 (by omega)⟩
end
theorem lmake_ok (κ : Bool) (n : Nat) (h1 : 1 ≤ n) (h2 : n ≤ 16) (w : World) : Calls Try.prog 23 #[.agg #[.int .i64 (if κ = true then 1 else 0), .int .i64 n]] w fun e w' => ∃ v F, e = .returned (.tuple #[v, .int .i64 0]) ∧ Sh w' w.heap.size v κ n Sr.nil F ∧ Since w F ∧ Below w.heap.size w w' := by
  cases κ with
  | true => exact lmake_lru n h1 h2 w
  | false => exact lmake_book n h1 h2 w
theorem lmake_no (k c : Int) (h : (k ≠ 0 ∧ k ≠ 1) ∨ c < 1 ∨ 16 < c) (w : World) : Calls Try.prog 23 #[.agg #[.int .i64 k, .int .i64 c]] w fun e w' => e = .returned (.tuple #[.nilIface, .int .i64 2]) ∧ Below w.heap.size w w' := by
  obtain ⟨X, HX, hbX⟩ : ∃ X, Hid (w.alloc (.cells #[.int .i64 k, .int .i64 c] 74) = X) ∧ Below w.heap.size w X := ⟨_, rfl, below_allocG _ _⟩
  by_cases h0 : k = 0
  · subst h0
    have hc : c < 1 ∨ 16 < c := by rcases h with g | g; exact absurd rfl g.1; exact g
    go_enter Try.func23, Try.ntmps23
    go_wp2_with (go_at_call 32; rw [HX.out]; go_must (refine (lplain_no c hc X).mono ?_); rintro e w1 ⟨rfl, rfl⟩)
    go_ret2
    exact ⟨rfl, hbX⟩
  · by_cases h1 : k = 1
    · subst h1
      have hc : c < 1 ∨ 16 < c := by rcases h with g | g; exact absurd rfl g.2; exact g
      go_enter Try.func23, Try.ntmps23
      go_wp2_with (go_at_call 33; rw [HX.out]; go_must (refine (lbounded_no c hc X).mono ?_); rintro e w1 ⟨rfl, rfl⟩)
      go_ret2
      exact ⟨rfl, hbX⟩
    · have b0 : (k == 0) = false := by simpa using h0
      have b1 : (k == 1) = false := by simpa using h1
      clear h h0 h1
      go_enter Try.func23, Try.ntmps23
      go_wp2
      go_ret2
      exact ⟨rfl, below_allocG _ _⟩
end Go.Proofs.Ytpbfgebecgikjaa
