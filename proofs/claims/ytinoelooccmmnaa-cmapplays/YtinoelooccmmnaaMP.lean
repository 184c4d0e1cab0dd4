/-
  Texts joined: C15Plain, C15Fam, C15Sh, C15LM, C15LN, C15LW, C15LP, C15LB, W15Kit, C15Doc, C15DocM, C15DocD, C15DocN, C15DocW, W15Pm, W15M2, W15Awake, W15Ba, W15Pl.
-/
import Derived.Test.YtinoelooccmmnaaL14Ord
import Derived.Test.YtinoelooccmmnaaP12Of
import Derived.Test.YtinoelooccmmnaaGObj
import Derived.Test.YtinoelooccmmnaaW14Two
import Derived.Test.YtinoelooccmmnaaGSees
import Derived.Test.YtinoelooccmmnaaW14Open
import Derived.Test.YtinoelooccmmnaaL14Obj
namespace Go.Proofs.Ytinoelooccmmnaa
set_option linter.unusedVariables false
set_option linter.unusedSimpArgs false

/-- A shard: its pairs by rising keys, its keys by recency (those of a book: none). -/
abbrev Sr := List Pp × List Int
def Sr.nil : Sr := ([], [])
def doSh (κ : Bool) (cap : Nat) (s : Sr) (op key val : Int) : Rq × Sr :=
  if κ = true then doA cap s.1 s.2 op key val
  else (⟨(doS cap s.1 op key val).1.E, (doS cap s.1 op key val).1.f, (doS cap s.1 op key val).1.v, false, 0, 0⟩, ((doS cap s.1 op key val).2, s.2))
/-- What a shard keeps. -/
structure InvSh (κ : Bool) (cap : Nat) (s : Sr) : Prop where
  srt : Srt s.1
  len : s.1.length ≤ cap
  cap1 : 1 ≤ cap
  lru : κ = true → InvA cap s.1 s.2
theorem InvSh.new {κ : Bool} {cap : Nat} (h : 1 ≤ cap) : InvSh κ cap Sr.nil := ⟨List.Pairwise.nil, by simp [Sr.nil], h, fun _ => ⟨List.Pairwise.nil, List.Perm.refl _, by simp [Sr.nil], h⟩⟩
theorem InvSh.do {κ : Bool} {cap : Nat} {s : Sr} (h : InvSh κ cap s) (op key val : Int) : InvSh κ cap (doSh κ cap s op key val).2 := by
  unfold doSh
  cases κ with
  | true =>
    rw [if_pos rfl]
    have := (h.lru rfl).do op key val
    exact ⟨this.srt, this.len, h.cap1, fun _ => this⟩
  | false =>
    rw [if_neg (by decide)]
    exact ⟨srt_do h.srt _ _ _, doS_len h.len, h.cap1, fun e => by cases e⟩
/-- The shard of a key. -/
def atM (key : Int) (n : Nat) : Nat := (ofL key n).toNat
theorem atM_lt {key : Int} {n : Nat} (hn : 1 ≤ n) (hk : 0 ≤ key) : atM key n < n := by
  unfold atM ofL
  rw [if_neg (by omega)]
  have h1 := Int.emod_nonneg (key * 11400714819323198485 % 18446744073709551616 / 4294967296) (show (n : Int) ≠ 0 by omega)
  have h2 := Int.emod_lt_of_pos (key * 11400714819323198485 % 18446744073709551616 / 4294967296) (show (0 : Int) < n by omega)
  omega
theorem atM_of {key : Int} {n : Nat} (hn : 1 ≤ n) : ofL key n = (atM key n : Int) := by
  unfold atM ofL
  rw [if_neg (by omega)]
  have h1 := Int.emod_nonneg (key * 11400714819323198485 % 18446744073709551616 / 4294967296) (show (n : Int) ≠ 0 by omega)
  omega
/-- An operation on a map. -/
def doM (κ : Bool) (cap : Nat) (st : List Sr) (op key val : Int) : Rq × List Sr :=
  ((doSh κ cap (st.getD (atM key st.length) Sr.nil) op key val).1, st.set (atM key st.length) (doSh κ cap (st.getD (atM key st.length) Sr.nil) op key val).2)
/-- What a map keeps. -/
def InvM (κ : Bool) (cap : Nat) (st : List Sr) : Prop := ∀ i, i < st.length → InvSh κ cap (st.getD i Sr.nil)
theorem getD_set_same {α : Type} {st : List α} {i : Nat} (hi : i < st.length) (s d : α) : (st.set i s).getD i d = s := by simp [hi]
theorem getD_set_other {α : Type} {st : List α} {i j : Nat} (hij : i ≠ j) (s d : α) : (st.set i s).getD j d = st.getD j d := by simp [List.getElem?_set, hij]
theorem InvM.set {κ : Bool} {cap : Nat} {st : List Sr} (h : InvM κ cap st) {i : Nat} {s : Sr} (hs : InvSh κ cap s) : InvM κ cap (st.set i s) := by
  intro j hj
  rw [List.length_set] at hj
  by_cases e : i = j
  · subst e; rw [getD_set_same hj]; exact hs
  · rw [getD_set_other e]; exact h j hj
theorem InvM.do {κ : Bool} {cap : Nat} {st : List Sr} (h : InvM κ cap st) (op key val : Int) (hi : atM key st.length < st.length) : InvM κ cap (doM κ cap st op key val).2 := h.set ((h _ hi).do op key val)
theorem doM_len (κ : Bool) (cap : Nat) (st : List Sr) (op key val : Int) : (doM κ cap st op key val).2.length = st.length := by unfold doM; simp
def walkM (st : List Sr) : List Pp := st.flatMap (fun s => s.1)
def newM (n : Nat) : List Sr := List.replicate n Sr.nil
theorem InvM.new {κ : Bool} {cap n : Nat} (h : 1 ≤ cap) : InvM κ cap (newM n) := by
  intro i hi
  unfold newM at hi ⊢
  rw [List.length_replicate] at hi
  rw [List.getD_eq_getElem?_getD, List.getElem?_replicate, if_pos hi]
  exact InvSh.new h
end Go.Proofs.Ytinoelooccmmnaa
namespace Go.Proofs.Ytinoelooccmmnaa
open Go.RowKit
set_option linter.unusedVariables false
set_option linter.unusedSimpArgs false

def upd {α : Type} (F : Nat → α) (i : Nat) (G : α) : Nat → α := fun j => if j = i then G else F j
theorem upd_same {α : Type} (F : Nat → α) (i : Nat) (G : α) : upd F i G i = G := by unfold upd; rw [if_pos rfl]
theorem upd_other {α : Type} (F : Nat → α) {i j : Nat} (G : α) (h : j ≠ i) : upd F i G j = F j := by unfold upd; rw [if_neg h]
/-- The blocks of all. -/
def unF (n : Nat) (F : Nat → Ft) : Ft := fun k => ∃ i, i < n ∧ F i k
structure Fam (P : World → Nat → Ft → Prop) (w : World) (n : Nat) (F : Nat → Ft) : Prop where
  ob : ∀ i, i < n → P w i (F i)
  li : ∀ i, i < n → Lies w (F i)
  ap : ∀ i j, i < n → j < n → i ≠ j → Apt (F i) (F j)
section
variable {P P' : World → Nat → Ft → Prop} {w w' : World} {n i : Nat} {F : Nat → Ft} {G : Ft}
/-- One of them goes a step. -/
theorem Fam.step (h : Fam P w n F) (hi : i < n) (hn : Nx w w' (F i) G) (hG : Lies w' G) (hP : P' w' i G) (hk : ∀ j, j < n → j ≠ i → P w j (F j) → Apt (F i) (F j) → P' w' j (F j)) : Fam P' w' n (upd F i G) := by
  refine ⟨fun j hj => ?_, fun j hj => ?_, fun j k hj hk' hne => ?_⟩
  · by_cases e : j = i
    · subst e; rw [upd_same]; exact hP
    · rw [upd_other F G e]; exact hk j hj e (h.ob j hj) (h.ap i j hi hj (fun e' => e e'.symm))
  · by_cases e : j = i
    · subst e; rw [upd_same]; exact hG
    · rw [upd_other F G e]; exact (h.li j hj).chg hn.chg
  · by_cases e : j = i
    · subst e
      rw [upd_same, upd_other F G (fun e => hne e.symm)]
      exact (h.ap j k hj hk' hne).next (h.li k hk') hn
    · rw [upd_other F G e]
      by_cases e2 : k = i
      · subst e2
        rw [upd_same]
        exact ((h.ap k j hk' hj (fun e => hne e.symm)).next (h.li j hj) hn).symm
      · rw [upd_other F G e2]; exact h.ap j k hj hk' hne
/-- All of them stay. -/
theorem Fam.keeps (h : Fam P w n F) {S : Ft} (hc : Chg w w' S) (hk : ∀ j, j < n → P w j (F j) → P' w' j (F j)) : Fam P' w' n F := ⟨fun j hj => hk j hj (h.ob j hj), fun j hj => (h.li j hj).chg hc, h.ap⟩
/-- One more, that was made anew. -/
theorem Fam.more (h : Fam P w n F) (hz : w.heap.size ≤ w'.heap.size) (hs : Since w G) (hG : Lies w' G) (hP : P' w' n G) (hk : ∀ j, j < n → P w j (F j) → P' w' j (F j)) : Fam P' w' (n + 1) (upd F n G) := by
  refine ⟨fun j hj => ?_, fun j hj => ?_, fun j k hj hk' hne => ?_⟩
  · by_cases e : j = n
    · subst e; rw [upd_same]; exact hP
    · rw [upd_other F G e]; exact hk j (by omega) (h.ob j (by omega))
  · by_cases e : j = n
    · subst e; rw [upd_same]; exact hG
    · rw [upd_other F G e]; exact fun k hk => Nat.lt_of_lt_of_le (h.li j (by omega) k hk) hz
  · by_cases e : j = n
    · subst e
      rw [upd_same, upd_other F G (fun e => hne e.symm)]
      exact (Apt.made (h.li k (by omega)) hs).symm
    · rw [upd_other F G e]
      by_cases e2 : k = n
      · subst e2
        rw [upd_same]
        exact Apt.made (h.li j (by omega)) hs
      · rw [upd_other F G e2]; exact h.ap j k (by omega) (by omega) hne
theorem Fam.nil : Fam P w 0 F := ⟨fun i h => by omega, fun i h => by omega, fun i j h => by omega⟩
theorem Nx.fam (hi : i < n) (hn : Nx w w' (F i) G) : Nx w w' (unF n F) (unF n (upd F i G)) := by
  refine ⟨hn.chg.mono (fun k hk => ⟨i, hi, hk⟩), fun k hk => ?_⟩
  obtain ⟨j, hj, hk⟩ := hk
  by_cases e : j = i
  · subst e
    rw [upd_same] at hk
    rcases hn.new k hk with g | g
    · exact .inl ⟨j, hj, g⟩
    · exact .inr g
  · rw [upd_other F G e] at hk
    exact .inl ⟨j, hj, hk⟩
end
/-- A row of one's own lies at a block that is known whole. -/
theorem own_hpC {w : World} {B : Nat} {e : TypeId} {z : Nat} {v : Value} {n : Nat} {xs : List Value} (h : w.ownsRow B e z v n xs) {k : Nat} (hk : v.ownBlock = some k) : ∃ cs, Hp w k e cs := by
  rcases h with ⟨_, ⟨rfl, _⟩ | ⟨g, cap, cur, rfl, _, hh, _⟩⟩
  · cases hk
  · have e1 : g = k := Option.some.inj hk
    subst e1
    exact ⟨cur.toList, by unfold Hp; rw [hh]⟩
end Go.Proofs.Ytinoelooccmmnaa
namespace Go.Proofs.Ytinoelooccmmnaa
open Go.RowKit
set_option linter.unusedVariables false
set_option linter.unusedSimpArgs false
set_option maxRecDepth 100000

/-- The landed shard: the interface's value. -/
def Sh (w : World) (B : Nat) (v : Value) (κ : Bool) (cap : Nat) (s : Sr) (F : Ft) : Prop :=
  (κ = false ∧ ∃ b, v = .iface 86 (.pointer (some ⟨b, 0, none⟩)) ∧ Bo w B b cap s.1 F) ∨
  (κ = true ∧ ∃ l, v = .iface 89 (.pointer (some ⟨l, 0, none⟩)) ∧ Lu w B l cap s.1 s.2 F)
section
variable {w w' : World} {B cap : Nat} {v : Value} {κ : Bool} {s : Sr} {F G : Ft}
theorem Sh.lies (h : Sh w B v κ cap s F) : Lies w F := by
  rcases h with ⟨_, b, _, hb⟩ | ⟨_, l, _, hb⟩
  · exact hb.lies
  · exact hb.lies
theorem Sh.keeps (h : Sh w B v κ cap s F) (hc : Chg w w' G) (ha : Apt G F) : Sh w' B v κ cap s F := by
  rcases h with ⟨e, b, ev, hb⟩ | ⟨e, l, ev, hb⟩
  · exact .inl ⟨e, b, ev, hb.keeps hc ha⟩
  · exact .inr ⟨e, l, ev, hb.keeps hc ha⟩
theorem Sh.below (h : Sh w B v κ cap s F) (hb : Below w.heap.size w w') : Sh w' B v κ cap s F := h.keeps (Chg.of_below (S := fun _ => False) hb) (fun _ e => e.elim)
theorem Sh.other (h : Sh w B v κ cap s F) {n : Nat} {t : TypeId} {cs : List Value} (hp : Hp w n t cs) (h1 : t ≠ 97) (h2 : t ≠ 95) (h3 : t ≠ 64) (h4 : t ≠ 35) : ¬ F n := by
  rcases h with ⟨_, b, _, hb⟩ | ⟨_, l, _, hb⟩
  · exact hb.other hp h2 h3
  · exact hb.other hp h1 h2 h3 h4
theorem Sh.low {B' : Nat} (h : Sh w B v κ cap s F) (hB : B' ≤ B) : Sh w B' v κ cap s F := by
  rcases h with ⟨e, b, ev, u, hb, hF⟩ | ⟨e, l, ev, b, u, ur, hb, hF⟩
  · exact .inl ⟨e, b, ev, u, ⟨hb.hp, own_lowG hb.row hB⟩, hF⟩
  · exact .inr ⟨e, l, ev, b, u, ur, ⟨hb.hp, ⟨hb.bk.hp, own_lowG hb.bk.row hB⟩, own_lowG hb.rc hB⟩, hF⟩
end
/-- An empty book behind the interface. -/
theorem lplain_ok (n : Nat) (h1 : 1 ≤ n) (h2 : n ≤ 16) (w : World) : Calls Try.prog 27 #[.int .i64 n] w fun e w' => ∃ v F, e = .returned (.tuple #[v, .int .i64 0]) ∧ Sh w' w.heap.size v false n Sr.nil F ∧ Since w F ∧ Below w.heap.size w w' := by
  go_enter Try.func27, Try.ntmps27
  go_wp2_with (go_at_call 33; go_must (refine (lnew_ok n h1 h2 w).mono ?_); rintro e w1 ⟨rfl, hp1, hb1, hz1⟩; go_must (have HP1 := keepG hp1; have HZ1 := keepG hz1; clear hp1 hz1))
  go_ret2
  refine ⟨_, _, rfl, .inl ⟨rfl, w.heap.size, rfl, .slice none 0 0, ⟨HP1.out, World.ownsRow_nil _ _ _ _⟩, rfl⟩, fun k hk => ?_, hb1⟩
  rcases hk with e | e
  · omega
  · cases e
theorem lplain_no (c : Int) (hc : c < 1 ∨ 16 < c) (w : World) : Calls Try.prog 27 #[.int .i64 c] w fun e w' => e = .returned (.tuple #[.nilIface, .int .i64 2]) ∧ w = w' := by
  go_enter Try.func27, Try.ntmps27
  go_wp2_with (go_at_call 33; go_must (refine (lnew_no c hc w).mono ?_); rintro e w1 ⟨rfl, rfl⟩)
  go_ret2
  first | done | exact ⟨rfl, rfl⟩
/-- An empty LRU behind the interface. -/
theorem lbounded_ok (n : Nat) (h1 : 1 ≤ n) (h2 : n ≤ 16) (w : World) : Calls Try.prog 28 #[.int .i64 n] w fun e w' => ∃ v F, e = .returned (.tuple #[v, .int .i64 0]) ∧ Sh w' w.heap.size v true n Sr.nil F ∧ Since w F ∧ Below w.heap.size w w' := by
  go_enter Try.func28, Try.ntmps28
  go_wp2_with (go_at_call 34; go_must (refine (lunew_ok n h1 h2 w).mono ?_); rintro e w1 ⟨l, F, rfl, hL1, hs1, hb1⟩; go_must (have HL1 := keepG hL1; have HS1 := keepG hs1; clear hL1 hs1))
  go_ret2
  exact ⟨_, F, rfl, .inr ⟨rfl, l, rfl, HL1.out⟩, HS1.out, hb1⟩
theorem lbounded_no (c : Int) (hc : c < 1 ∨ 16 < c) (w : World) : Calls Try.prog 28 #[.int .i64 c] w fun e w' => e = .returned (.tuple #[.nilIface, .int .i64 2]) ∧ w = w' := by
  go_enter Try.func28, Try.ntmps28
  go_wp2_with (go_at_call 34; go_must (refine (llnew_no c hc w).mono ?_); rintro e w1 ⟨rfl, rfl⟩)
  go_ret2
  first | done | exact ⟨rfl, rfl⟩
theorem lmake_book (n : Nat) (h1 : 1 ≤ n) (h2 : n ≤ 16) (w : World) : Calls Try.prog 19 #[.agg #[.int .i64 0, .int .i64 n]] w fun e w' => ∃ v F, e = .returned (.tuple #[v, .int .i64 0]) ∧ Sh w' w.heap.size v false n Sr.nil F ∧ Since w F ∧ Below w.heap.size w w' := by
  obtain ⟨X, HX, hbX⟩ : ∃ X, Hid (w.alloc (.cells #[.int .i64 0, .int .i64 n] 24) = X) ∧ Below w.heap.size w X := ⟨_, rfl, below_allocG _ _⟩
  have hzX := hbX.size
  go_enter Try.func19, Try.ntmps19
  go_wp2_with (go_at_call 27; rw [HX.out]; go_must (refine (lplain_ok n h1 h2 X).mono ?_); rintro e w1 ⟨v, F, rfl, hL1, hs1, hb1⟩; go_must (have HL1 := keepG hL1; have HS1 := keepG hs1; clear hL1 hs1))
  go_ret2
  exact ⟨v, F, rfl, HL1.out.low hzX, fun k hk => Nat.le_trans hzX (HS1.out k hk), hbX.trans (hb1.mono hzX)⟩
theorem lmake_lru (n : Nat) (h1 : 1 ≤ n) (h2 : n ≤ 16) (w : World) : Calls Try.prog 19 #[.agg #[.int .i64 1, .int .i64 n]] w fun e w' => ∃ v F, e = .returned (.tuple #[v, .int .i64 0]) ∧ Sh w' w.heap.size v true n Sr.nil F ∧ Since w F ∧ Below w.heap.size w w' := by
  obtain ⟨X, HX, hbX⟩ : ∃ X, Hid (w.alloc (.cells #[.int .i64 1, .int .i64 n] 24) = X) ∧ Below w.heap.size w X := ⟨_, rfl, below_allocG _ _⟩
  have hzX := hbX.size
  go_enter Try.func19, Try.ntmps19
  go_wp2_with (go_at_call 28; rw [HX.out]; go_must (refine (lbounded_ok n h1 h2 X).mono ?_); rintro e w1 ⟨v, F, rfl, hL1, hs1, hb1⟩; go_must (have HL1 := keepG hL1; have HS1 := keepG hs1; clear hL1 hs1))
  go_ret2
  exact ⟨v, F, rfl, HL1.out.low hzX, fun k hk => Nat.le_trans hzX (HS1.out k hk), hbX.trans (hb1.mono hzX)⟩
theorem meth_bookDo (fuel : Nat) (a : Addr) (w : World) : (method (fuel + 1) 86 (.pointer (some a)) "Do").run Try.prog w = .ok (55, .pointer (some a)) w := by kernel_rfl
theorem meth_bookPairs (fuel : Nat) (a : Addr) (w : World) : (method (fuel + 1) 86 (.pointer (some a)) "Pairs").run Try.prog w = .ok (57, .pointer (some a)) w := by kernel_rfl
theorem meth_bookLen (fuel : Nat) (a : Addr) (w : World) : (method (fuel + 1) 86 (.pointer (some a)) "Len").run Try.prog w = .ok (56, .pointer (some a)) w := by kernel_rfl
theorem meth_bookCap (fuel : Nat) (a : Addr) (w : World) : (method (fuel + 1) 86 (.pointer (some a)) "Cap").run Try.prog w = .ok (54, .pointer (some a)) w := by kernel_rfl
theorem meth_lruDo (fuel : Nat) (a : Addr) (w : World) : (method (fuel + 1) 89 (.pointer (some a)) "Do").run Try.prog w = .ok (68, .pointer (some a)) w := by kernel_rfl
theorem meth_parts {P : Program} {t : TypeId} {name : String} {pth : List FieldStep} {fn : Option (FuncId × Bool)} (h : (P.info? t).bind (fun i => (i.methods.find? (fun x => x.name == name)).map (fun m => (m.path.toList, m.func))) = some (pth, fn)) : ∃ i m, P.info? t = some i ∧ i.methods.find? (fun x => x.name == name) = some m ∧ m.path.toList = pth ∧ m.func = fn := by
  cases hi : P.info? t with
  | none => rw [hi] at h; cases h
  | some i =>
    rw [hi] at h
    cases hm : i.methods.find? (fun x => x.name == name) with
    | none => simp [hm] at h
    | some m =>
      simp [hm] at h
      exact ⟨i, m, rfl, hm, h.1, h.2⟩
/-- A method of the book that an LRU has. -/
theorem meth_lru {name : String} {fn : FuncId} (hq : (Try.prog.info? 89).bind (fun i => (i.methods.find? (fun x => x.name == name)).map (fun m => (m.path.toList, m.func))) = some ([⟨97, 0, true⟩], some (fn, true))) (fuel : Nat) {l : Nat} {a : Addr} {w : World} (h : w.cell? ⟨l, 0, none⟩ = some (.pointer (some a))) : (method (fuel + 1) 89 (.pointer (some ⟨l, 0, none⟩)) name).run Try.prog w = .ok (fn, .pointer (some a)) w := by
  obtain ⟨i, m, hi, hm, hpt, hf⟩ := meth_parts (P := Try.prog) (t := 89) (name := name) (pth := [⟨97, 0, true⟩]) (fn := some (fn, true)) hq
  have hfp : ∀ f : Field, f.type = 86 → f.offset = 0 → (fieldPlace ⟨l, 0, none⟩ f).run Try.prog w = .ok ⟨l, 0, none⟩ w := by
    rintro ⟨n1, t1, o1, e1, g1, p1, b1⟩ rfl rfl
    kernel_rfl
  simp [method, typeInfo, hi, hm, hpt, hf, follow, run_underlying Try.underlying97, asAddr, Place.get]
  rw [hfp _ rfl rfl]
  simp [Result.andThen, receiverAt, run_underlying Try.underlying86, Place.get, loadVar, Try.isAgg86, h]
theorem meth_lruLen (fuel : Nat) {l : Nat} {a : Addr} {w : World} (h : w.cell? ⟨l, 0, none⟩ = some (.pointer (some a))) : (method (fuel + 1) 89 (.pointer (some ⟨l, 0, none⟩)) "Len").run Try.prog w = .ok (56, .pointer (some a)) w := meth_lru (by kernel_rfl) fuel h
theorem meth_lruCap (fuel : Nat) {l : Nat} {a : Addr} {w : World} (h : w.cell? ⟨l, 0, none⟩ = some (.pointer (some a))) : (method (fuel + 1) 89 (.pointer (some ⟨l, 0, none⟩)) "Cap").run Try.prog w = .ok (54, .pointer (some a)) w := meth_lru (by kernel_rfl) fuel h
theorem meth_lruPairs (fuel : Nat) {l : Nat} {a : Addr} {w : World} (h : w.cell? ⟨l, 0, none⟩ = some (.pointer (some a))) : (method (fuel + 1) 89 (.pointer (some ⟨l, 0, none⟩)) "Pairs").run Try.prog w = .ok (57, .pointer (some a)) w := meth_lru (by kernel_rfl) fuel h
/-- What a call through the interface comes to. -/
def Via (w : World) (v : Value) (name : String) (f : FuncId) (x : Value) : Prop := ∃ t u, v = .iface t u ∧ (∀ fuel, (method (fuel + 1) t u name).run Try.prog w = .ok (f, x) w) ∧ ∀ xs w', (callFunc f xs).run Try.prog w' = .ok (.enter f xs) w'
section
variable {w : World} {B cap : Nat} {v : Value} {κ : Bool} {s : Sr} {F : Ft}
/-- Do of a shard. -/
theorem Sh.do_any (op key val : Int) (h : Sh w B v κ cap s F) (hi : InvSh κ cap s) (hc16 : cap ≤ 16) (hB : B ≤ w.heap.size) {q : Rq} {s' : Sr} (HQ : Hid (doSh κ cap s op key val = (q, s'))) :
    ∃ f x, Via w v "Do" f x ∧ Calls Try.prog f #[x, .int .i64 op, .int .u64 key, .int .u64 val] w fun e w' => e = .returned (resG q.E q.f q.v q.o q.k q.u) ∧ ∃ F', Sh w' B v κ cap s' F' ∧ Nx w w' F F' := by
  have hln := hi.len
  rcases h with ⟨rfl, b, rfl, hb⟩ | ⟨rfl, l, rfl, hb⟩
  · refine ⟨_, _, ⟨_, _, rfl, fun fuel => meth_bookDo fuel ⟨b, 0, none⟩ w, fun _ _ => by kernel_rfl⟩, (hb.do_any op key val hln hc16 hB).mono ?_⟩
    rintro e w' ⟨rfl, F', g1, g2⟩
    have hq := HQ.out
    unfold doSh at hq
    rw [if_neg (by decide)] at hq
    injection hq with hq1 hq2
    subst hq1 hq2
    exact ⟨rfl, F', .inl ⟨rfl, b, rfl, g1⟩, g2⟩
  · have hq := HQ.out
    unfold doSh at hq
    rw [if_pos rfl] at hq
    refine ⟨_, _, ⟨_, _, rfl, fun fuel => meth_lruDo fuel ⟨l, 0, none⟩ w, fun _ _ => by kernel_rfl⟩, (hb.do_as (S' := s'.1) (R' := s'.2) hq (hi.lru rfl) hc16 hB).mono ?_⟩
    rintro e w' ⟨rfl, F', g1, g2⟩
    exact ⟨rfl, F', .inr ⟨rfl, l, rfl, g1⟩, g2⟩
theorem Sh.pairs (h : Sh w B v κ cap s F) (hi : InvSh κ cap s) (hc16 : cap ≤ 16) :
    ∃ f x, Via w v "Pairs" f x ∧ Calls Try.prog f #[x] w fun e w' => ∃ u, e = .returned u ∧ w'.ownsRow w.heap.size 64 2 u s.1.length (flatG ppC s.1) ∧ Below w.heap.size w w' := by
  have hln := hi.len
  rcases h with ⟨rfl, b, rfl, v, hb, rfl⟩ | ⟨rfl, l, rfl, hb⟩
  · exact ⟨_, _, ⟨_, _, rfl, fun fuel => meth_bookPairs fuel ⟨b, 0, none⟩ w, fun _ _ => by kernel_rfl⟩, lpairs_any hb (by omega)⟩
  · obtain ⟨d, u, g1, g2⟩ := hb.book
    exact ⟨_, _, ⟨_, _, rfl, fun fuel => meth_lruPairs fuel g1, fun _ _ => by kernel_rfl⟩, lpairs_any g2 (by omega)⟩
theorem Sh.len (h : Sh w B v κ cap s F) : ∃ f x, Via w v "Len" f x ∧ Calls Try.prog f #[x] w fun e w' => e = .returned (.int .i64 s.1.length) ∧ w = w' := by
  rcases h with ⟨rfl, b, rfl, v, hb, rfl⟩ | ⟨rfl, l, rfl, hb⟩
  · exact ⟨_, _, ⟨_, _, rfl, fun fuel => meth_bookLen fuel ⟨b, 0, none⟩ w, fun _ _ => by kernel_rfl⟩, llen_any hb⟩
  · obtain ⟨d, u, g1, g2⟩ := hb.book
    exact ⟨_, _, ⟨_, _, rfl, fun fuel => meth_lruLen fuel g1, fun _ _ => by kernel_rfl⟩, llen_any g2⟩
theorem Sh.capac (h : Sh w B v κ cap s F) : ∃ f x, Via w v "Cap" f x ∧ Calls Try.prog f #[x] w fun e w' => e = .returned (.int .i64 cap) ∧ w = w' := by
  rcases h with ⟨rfl, b, rfl, v, hb, rfl⟩ | ⟨rfl, l, rfl, hb⟩
  · exact ⟨_, _, ⟨_, _, rfl, fun fuel => meth_bookCap fuel ⟨b, 0, none⟩ w, fun _ _ => by kernel_rfl⟩, lcap_any hb⟩
  · obtain ⟨d, u, g1, g2⟩ := hb.book
    exact ⟨_, _, ⟨_, _, rfl, fun fuel => meth_lruCap fuel g1, fun _ _ => by kernel_rfl⟩, lcap_any g2⟩
end
theorem lmake_ok (κ : Bool) (n : Nat) (h1 : 1 ≤ n) (h2 : n ≤ 16) (w : World) : Calls Try.prog 19 #[.agg #[.int .i64 (if κ = true then 1 else 0), .int .i64 n]] w fun e w' => ∃ v F, e = .returned (.tuple #[v, .int .i64 0]) ∧ Sh w' w.heap.size v κ n Sr.nil F ∧ Since w F ∧ Below w.heap.size w w' := by
  cases κ with
  | true => exact lmake_lru n h1 h2 w
  | false => exact lmake_book n h1 h2 w
theorem lmake_no (k c : Int) (h : (k ≠ 0 ∧ k ≠ 1) ∨ c < 1 ∨ 16 < c) (w : World) : Calls Try.prog 19 #[.agg #[.int .i64 k, .int .i64 c]] w fun e w' => e = .returned (.tuple #[.nilIface, .int .i64 2]) ∧ Below w.heap.size w w' := by
  obtain ⟨X, HX, hbX⟩ : ∃ X, Hid (w.alloc (.cells #[.int .i64 k, .int .i64 c] 24) = X) ∧ Below w.heap.size w X := ⟨_, rfl, below_allocG _ _⟩
  by_cases h0 : k = 0
  · subst h0
    have hc : c < 1 ∨ 16 < c := by rcases h with g | g; exact absurd rfl g.1; exact g
    go_enter Try.func19, Try.ntmps19
    go_wp2_with (go_at_call 27; rw [HX.out]; go_must (refine (lplain_no c hc X).mono ?_); rintro e w1 ⟨rfl, rfl⟩)
    go_ret2
    exact ⟨rfl, hbX⟩
  · by_cases h1 : k = 1
    · subst h1
      have hc : c < 1 ∨ 16 < c := by rcases h with g | g; exact absurd rfl g.2; exact g
      go_enter Try.func19, Try.ntmps19
      go_wp2_with (go_at_call 28; rw [HX.out]; go_must (refine (lbounded_no c hc X).mono ?_); rintro e w1 ⟨rfl, rfl⟩)
      go_ret2
      exact ⟨rfl, hbX⟩
    · have b0 : (k == 0) = false := by simpa using h0
      have b1 : (k == 1) = false := by simpa using h1
      clear h h0 h1
      go_enter Try.func19, Try.ntmps19
      go_wp2
      go_ret2
      exact ⟨rfl, below_allocG _ _⟩
end Go.Proofs.Ytinoelooccmmnaa
namespace Go.Proofs.Ytinoelooccmmnaa
open Go.RowKit
set_option linter.unusedVariables false
set_option linter.unusedSimpArgs false
set_option maxRecDepth 100000

abbrev ifC (v : Value) : List Value := [v]
theorem ifC_len (v : Value) : (ifC v).length = 1 := rfl
theorem infoIf : (Try.prog.info? 55).map (fun i => (i.zero, i.size, i.bytes)) = some (some .nilIface, 1, 16) := by kernel_rfl
/-- The landed map, at a block. -/
structure Lm (w : World) (B m cap : Nat) (κ : Bool) (k : Int) (rv : Value) (vs : List Value) (st : List Sr) (F : Nat → Ft) : Prop where
  hp : Hp w m 69 [.int .i64 k, .int .i64 cap, rv]
  row : w.ownsRow B 55 1 rv vs.length (flatG ifC vs)
  len : st.length = vs.length
  fam : Fam (fun w i G => Sh w B (vs.getD i .nilIface) κ cap (st.getD i Sr.nil) G) w vs.length F
def footN (m : Nat) (rv : Value) (n : Nat) (F : Nat → Ft) : Ft := fun k => k = m ∨ rv.ownBlock = some k ∨ unF n F k
section
variable {w w' : World} {B m cap : Nat} {κ : Bool} {k : Int} {rv : Value} {vs : List Value} {st : List Sr} {F : Nat → Ft}
theorem Lm.below (h : Lm w B m cap κ k rv vs st F) (hb : Below w.heap.size w w') : Lm w' B m cap κ k rv vs st F :=
  ⟨h.hp.below hb h.hp.lt, own_below h.row hb (Nat.le_refl _), h.len, h.fam.keeps (Chg.of_below (S := fun _ => False) hb) (fun j hj g => g.below hb)⟩
theorem Lm.lies (h : Lm w B m cap κ k rv vs st F) : Lies w (footN m rv vs.length F) := by
  intro k hk
  rcases hk with e | e | ⟨i, hi, e⟩
  · rw [e]; exact h.hp.lt
  · exact (h.row.lt k e).2
  · exact h.fam.li i hi k e
theorem Lm.chg {G : Ft} (h : Lm w B m cap κ k rv vs st F) (hc : Chg w w' G) (ha : Apt G (footN m rv vs.length F)) : Lm w' B m cap κ k rv vs st F :=
  ⟨h.hp.chg hc (fun e => ha m e (.inl rfl)), own_chg h.row hc (fun k hk e => ha k e (.inr (.inl hk))), h.len, h.fam.keeps hc (fun j hj g => g.keeps hc (fun k e1 e2 => ha k e1 (.inr (.inr ⟨j, hj, e2⟩))))⟩
/-- A step of one shard. -/
theorem Lm.step (h : Lm w B m cap κ k rv vs st F) {i : Nat} (hi : i < vs.length) {s' : Sr} {G : Ft} (hs : Sh w' B (vs.getD i .nilIface) κ cap s' G) (hn : Nx w w' (F i) G) : Lm w' B m cap κ k rv vs (st.set i s') (upd F i G) ∧ Nx w w' (footN m rv vs.length F) (footN m rv vs.length (upd F i G)) := by
  have hob := h.fam.ob i hi
  have n1 : ¬ F i m := hob.other h.hp (by decide) (by decide) (by decide) (by decide)
  have n2 : ∀ k, rv.ownBlock = some k → ¬ F i k := fun k hk => by
    obtain ⟨cs, hq⟩ := own_hpC h.row hk
    exact hob.other hq (by decide) (by decide) (by decide) (by decide)
  have hf := Nx.fam (n := vs.length) hi hn
  refine ⟨⟨h.hp.chg hn.chg n1, own_chg h.row hn.chg n2, by rw [List.length_set]; exact h.len, h.fam.step hi hn hs.lies ?_ (fun j hj hne g ha => ?_)⟩, hn.chg.mono (fun k e => .inr (.inr ⟨i, hi, e⟩)), fun k hk => ?_⟩
  · show Sh w' B (vs.getD i .nilIface) κ cap ((st.set i s').getD i Sr.nil) G
    rw [getD_set_same (by rw [h.len]; exact hi)]
    exact hs
  · show Sh w' B (vs.getD j .nilIface) κ cap ((st.set i s').getD j Sr.nil) (F j)
    rw [getD_set_other (fun e => hne e.symm)]
    exact g.keeps hn.chg ha
  · rcases hk with e | e | e
    · exact .inl (.inl e)
    · exact .inl (.inr (.inl e))
    · rcases hf.new k e with g | g
      · exact .inl (.inr (.inr g))
      · exact .inr g
end
theorem res_endL (P : World → Ft → Prop) (hk : ∀ {w w' : World} {F G : Ft}, P w F → Chg w w' G → Apt G F → P w' F) {w X w1 W7 : World} {F F' : Ft} {cs : List Value} (hbX : Below w.heap.size w X) (hzX : X.heap.size = w.heap.size + 1) (hF : Lies w F) (Hr : Hp w1 w.heap.size 37 cs) (hl : cs.length = 6) (hP : P w1 F') (hn : Nx X w1 F F') {E x k u : Int} {f o : Bool} {fn : Func} {tmps : Array Value} {pt : Tmp} (hW : W7 = ((((((w1.setCell ⟨w.heap.size, 0, none⟩ (.int .i64 E)).setCell ⟨w.heap.size, 1, none⟩ (.bool f)).setCell ⟨w.heap.size, 2, none⟩ (.int .u64 x)).setCell ⟨w.heap.size, 3, none⟩ (.bool o)).setCell ⟨w.heap.size, 4, none⟩ (.int .u64 k)).setCell ⟨w.heap.size, 5, none⟩ (.int .u64 u))) (hr : fn.results = #[.cell pt 37] := by rfl) (hp : tmps.getD pt undef = .pointer (some ⟨w.heap.size, 0, none⟩) := by rfl) :
    bodyPost Try.prog fn (fun e w' => e = .returned (resG E f x o k u) ∧ ∃ F', P w' F' ∧ Nx w w' F F') .ret ⟨tmps, []⟩ W7 := by
  obtain ⟨hs, hg⟩ := six_sets (E := E) (f := f) (v := x) (o := o) (k := k) (u := u) Hr hl
  have hc := Chg.of_grown (S := fun k => k = w.heap.size) hg rfl
  have hn0 := (Nx.below (F := F) hbX).trans hn
  have hnot : ¬ F' w.heap.size := fun e => by
    rcases hn.new _ e with g | g
    · have := hF _ g; omega
    · omega
  rw [hW]
  exact res_ret hr hp hs ⟨rfl, F', hk hP hc (fun k e hf => by subst e; exact hnot hf), ⟨hn0.chg.trans hc (fun k hk e => by omega), hn0.new⟩⟩
/-- The landed map as an object. -/
def Lmo (w : World) (B m n cap : Nat) (κ : Bool) (k : Int) (st : List Sr) (G : Ft) : Prop := ∃ rv vs F, Lm w B m cap κ k rv vs st F ∧ vs.length = n ∧ G = footN m rv vs.length F
section
variable {w w' : World} {B m n cap : Nat} {κ : Bool} {k : Int} {st : List Sr} {G H : Ft}
theorem Lmo.lies (h : Lmo w B m n cap κ k st G) : Lies w G := by
  obtain ⟨rv, vs, F, h1, _, rfl⟩ := h
  exact h1.lies
theorem Lmo.keeps (h : Lmo w B m n cap κ k st G) (hc : Chg w w' H) (ha : Apt H G) : Lmo w' B m n cap κ k st G := by
  obtain ⟨rv, vs, F, h1, h2, rfl⟩ := h
  exact ⟨rv, vs, F, h1.chg hc ha, h2, rfl⟩
theorem Lmo.below (h : Lmo w B m n cap κ k st G) (hb : Below w.heap.size w w') : Lmo w' B m n cap κ k st G := by
  obtain ⟨rv, vs, F, h1, h2, rfl⟩ := h
  exact ⟨rv, vs, F, h1.below hb, h2, rfl⟩
theorem Lmo.len (h : Lmo w B m n cap κ k st G) : st.length = n := by
  obtain ⟨rv, vs, F, h1, h2, rfl⟩ := h
  exact h1.len.trans h2
set_option maxHeartbeats 8000000 in
theorem Lmo.do_any (op key val : Int) (h : Lmo w B m n cap κ k st G) (hv : InvM κ cap st) (hn : 1 ≤ n) (hn4 : n ≤ 4) (hk : 0 ≤ key ∧ key < 18446744073709551616) (hc16 : cap ≤ 16) (hB : B ≤ w.heap.size) {q : Rq} {st' : List Sr} (HQ : Hid (doM κ cap st op key val = (q, st'))) :
    Calls Try.prog 11 #[.pointer (some ⟨m, 0, none⟩), .int .i64 op, .int .u64 key, .int .u64 val] w fun e w' => e = .returned (resG q.E q.f q.v q.o q.k q.u) ∧ ∃ G', Lmo w' B m n cap κ k st' G' ∧ Nx w w' G G' := by
  have hlies := h.lies
  obtain ⟨rv, vs, F, h1, hpn, rfl⟩ := h
  have hsl := h1.len
  obtain ⟨i, HI⟩ : ∃ i, Hid (atM key n = i) := ⟨_, rfl⟩
  have hil : i < vs.length := by rw [← HI.out, hpn]; exact atM_lt hn hk.1
  have hin : i < n := by omega
  obtain ⟨s', HS'⟩ : ∃ s', Hid (doSh κ cap (st.getD i Sr.nil) op key val = (q, s')) ∧ Hid (st' = st.set i s') := by
    have hq := HQ.out
    unfold doM at hq
    rw [hsl, hpn, HI.out] at hq
    injection hq with q1 q2
    exact ⟨(doSh κ cap (st.getD i Sr.nil) op key val).2, Prod.ext q1 rfl, q2.symm⟩
  obtain ⟨HSQ, HSS⟩ := HS'
  rw [HSS.out]
  obtain ⟨g, cc, rfl, _, hg, hgc, hcm, hat⟩ := own_atG ifC_len .nilIface h1.row (by omega)
  have d0 := (hat i hil 0 (by omega)).1
  simp only [List.getElem?_cons_zero, Nat.add_zero, Nat.mul_one] at d0
  have c0 := h1.hp.cell (j := 2) rfl
  have hrl := h1.hp.lt
  clear hat
  have hof : ofL key (vs.length : Int) = (i : Int) := by rw [hpn, atM_of hn, HI.out]
  have HOF := keepG hof
  clear hof
  obtain ⟨X, HX, HrX, hbX, hzX⟩ := boxRG w
  obtain ⟨Y, HY, hbY, HrY, hzY⟩ : ∃ Y, Hid (X.drew = Y) ∧ Below w.heap.size w Y ∧ Hid (Hp Y w.heap.size 37 (resCG 0 false 0 false 0 0)) ∧ Y.heap.size = w.heap.size + 1 := ⟨_, rfl, below_drG hbX, HrX.out.drew, hzX⟩
  have HDY := keepG (h1.below hbY)
  obtain ⟨ff, fx, hvia, hcall⟩ := (HDY.out.fam.ob i hil).do_any op key val (hv i (by omega)) hc16 (by omega) HSQ
  obtain ⟨t, u, ev, hmeth, hcf⟩ := hvia
  rw [ev] at d0
  have HEV := keepG ev
  clear ev
  have HCALL := keepG hcall
  clear hcall
  have HLen := keepG hpn
  have hlI : (i : Int) < vs.length := by omega
  have hlI0 : ¬ (i : Int) < 0 := by omega
  have hps4 : vs.length ≤ 4 := by omega
  have HS : Hid (∀ wx, Below w.heap.size w wx → wx.cell? ⟨m, 2, none⟩ = some (.slice (some ⟨g, 0, none⟩) vs.length cc) ∧ wx.cell? ⟨g, i, none⟩ = some (.iface t u)) := fun wx hb => ⟨(hb.cell (p := ⟨m, 2, none⟩) hrl).trans c0, (hb.cell (p := ⟨g, i, none⟩) hg).trans d0⟩
  have n1 : ¬ w.heap.size = m := by omega
  have n2 : ¬ w.heap.size = g := by omega
  clear h1 c0 d0 hpn hsl
  go_enter Try.func11, Try.ntmps11
  go_wp2
  rw [HX.out]
  refine wp_region_held_drew (S := fun w' => w'.cell? ⟨m, 2, none⟩ = some (.slice (some ⟨g, 0, none⟩) vs.length cc) ∧ w'.cell? ⟨g, i, none⟩ = some (.iface t u)) (by kernel_rfl) (HS.out _ (below_drG hbX)) (fun hHeld => ?_)
  rw [HY.out] at hHeld ⊢
  refine wpAnyH_take (i := 0) (v := ?v1) rfl (by kernel_rfl) (by kernel_rfl) (by kernel_rfl) (fun _ _ _ h => h) (Or.inl ⟨by rfl, ?hy1⟩) (by assumption) ?rest1
  case hy1 => (intro wy hSw; (try dsimp only at hSw); go_simp; (first | done | with_reducible rfl))
  try simp only [Act.put, List.getElem_toArray, List.getElem_cons_zero, List.getElem_cons_succ, List.setIfInBounds_toArray, List.set_cons_zero, List.set_cons_succ]
  refine wpAnyH_take (i := 1) (v := ?v2) rfl (by kernel_rfl) (by kernel_rfl) (by kernel_rfl) (fun _ _ _ h => h) (Or.inl ⟨by rfl, ?hy2⟩) (by assumption) ?rest2
  case hy2 => (intro wy hSw; (try dsimp only at hSw); go_simp; (first | done | with_reducible rfl))
  try simp only [Act.put, List.getElem_toArray, List.getElem_cons_zero, List.getElem_cons_succ, List.setIfInBounds_toArray, List.set_cons_zero, List.set_cons_succ]
  refine wpAnyH_take (i := 2) (v := ?v3) rfl (by kernel_rfl) (by kernel_rfl) (by kernel_rfl) (fun _ _ _ h => h) (Or.inl ⟨by rfl, ?hy3⟩) (by assumption) ?rest3
  case hy3 => (intro wy hSw; (try dsimp only at hSw); go_simp; (first | done | with_reducible rfl))
  try simp only [Act.put, List.getElem_toArray, List.getElem_cons_zero, List.getElem_cons_succ, List.setIfInBounds_toArray, List.set_cons_zero, List.set_cons_succ]
  refine wpAnyH_take (i := 3) (v := ?v4) rfl (by kernel_rfl) (by kernel_rfl) (by kernel_rfl) (fun _ _ _ h => h) (Or.inl ⟨by rfl, ?hy4⟩) (by assumption) ?rest4
  case hy4 => (intro wy hSw; (try dsimp only at hSw); go_simp; (first | done | with_reducible rfl))
  try simp only [Act.put, List.getElem_toArray, List.getElem_cons_zero, List.getElem_cons_succ, List.setIfInBounds_toArray, List.set_cons_zero, List.set_cons_succ]
  refine wpAnyH_take (i := 4) (v := ?v5) rfl (by kernel_rfl) (by kernel_rfl) (by kernel_rfl) (fun _ _ _ h => h) (Or.inl ⟨by rfl, ?hy5⟩) (by assumption) ?rest5
  case hy5 => (intro wy hSw; (try dsimp only at hSw); go_simp; (first | done | with_reducible rfl))
  try simp only [Act.put, List.getElem_toArray, List.getElem_cons_zero, List.getElem_cons_succ, List.setIfInBounds_toArray, List.set_cons_zero, List.set_cons_succ]
  refine wpAnyH_take (i := 5) (v := ?v6) rfl (by kernel_rfl) (by kernel_rfl) (by kernel_rfl) (fun _ _ _ h => h) (Or.inl ⟨by rfl, ?hy6⟩) (by assumption) ?rest6
  case hy6 => (intro wy hSw; (try dsimp only at hSw); go_simp; (first | done | with_reducible rfl))
  try simp only [Act.put, List.getElem_toArray, List.getElem_cons_zero, List.getElem_cons_succ, List.setIfInBounds_toArray, List.set_cons_zero, List.set_cons_succ]
  refine wpAnyH_take (i := 6) (v := ?v7) rfl (by kernel_rfl) (by kernel_rfl) (by kernel_rfl) (fun _ _ _ h => h) (Or.inl ⟨by rfl, ?hy7⟩) (by assumption) ?rest7
  case hy7 => (intro wy hSw; (try dsimp only at hSw); go_simp; (first | done | with_reducible rfl))
  try simp only [Act.put, List.getElem_toArray, List.getElem_cons_zero, List.getElem_cons_succ, List.setIfInBounds_toArray, List.set_cons_zero, List.set_cons_succ]
  refine wpAnyH_take (i := 7) (v := ?v8) rfl (by kernel_rfl) (by kernel_rfl) (by kernel_rfl) (fun _ _ _ h => h) (Or.inl ⟨by rfl, ?hy8⟩) (by assumption) ?rest8
  case hy8 => (intro wy hSw; (try dsimp only at hSw); go_simp; (first | done | with_reducible rfl))
  try simp only [Act.put, List.getElem_toArray, List.getElem_cons_zero, List.getElem_cons_succ, List.setIfInBounds_toArray, List.set_cons_zero, List.set_cons_succ]
  refine wpAnyH_take (i := 8) (v := ?v9) rfl (by kernel_rfl) (by kernel_rfl) (by kernel_rfl) (fun _ _ _ h => h) (Or.inl ⟨by rfl, ?hy9⟩) (by assumption) ?rest9
  case hy9 => (intro wy hSw; (try dsimp only at hSw); go_simp; (first | done | with_reducible rfl))
  try simp only [Act.put, List.getElem_toArray, List.getElem_cons_zero, List.getElem_cons_succ, List.setIfInBounds_toArray, List.set_cons_zero, List.set_cons_succ]
  refine wpAnyH_take (i := 9) (v := ?v10) rfl (by kernel_rfl) (by kernel_rfl) (by kernel_rfl) (fun _ _ _ h => h) (Or.inl ⟨by rfl, ?hy10⟩) (by assumption) ?rest10
  case hy10 => (intro wy hSw; (try dsimp only at hSw); go_simp; (first | done | with_reducible rfl))
  try simp only [Act.put, List.getElem_toArray, List.getElem_cons_zero, List.getElem_cons_succ, List.setIfInBounds_toArray, List.set_cons_zero, List.set_cons_succ]
  refine wpAnyH_take (i := 13) (v := ?v11) rfl (by kernel_rfl) (by kernel_rfl) (by kernel_rfl) (fun _ _ _ h => h) (Or.inl ⟨by rfl, ?hy11⟩) (by assumption) ?rest11
  case hy11 => (intro wy hSw; (try dsimp only at hSw); go_simp; (first | done | with_reducible rfl))
  try simp only [Act.put, List.getElem_toArray, List.getElem_cons_zero, List.getElem_cons_succ, List.setIfInBounds_toArray, List.set_cons_zero, List.set_cons_succ]
  refine wpAnyH_take (i := 14) (v := ?v12) rfl (by kernel_rfl) (by kernel_rfl) (by kernel_rfl) (fun _ _ _ h => h) (Or.inl ⟨by rfl, ?hy12⟩) (by assumption) ?rest12
  case hy12 => (intro wy hSw; (try dsimp only at hSw); go_simp; (first | done | with_reducible rfl))
  try simp only [Act.put, List.getElem_toArray, List.getElem_cons_zero, List.getElem_cons_succ, List.setIfInBounds_toArray, List.set_cons_zero, List.set_cons_succ]
  refine wpAnyH_take (i := 15) (v := ?v13) rfl (by kernel_rfl) (by kernel_rfl) (by kernel_rfl) (fun _ _ _ h => h) (Or.inl ⟨by rfl, ?hy13⟩) (by assumption) ?rest13
  case hy13 => (intro wy hSw; (try dsimp only at hSw); go_simp; (first | done | with_reducible rfl))
  try simp only [Act.put, List.getElem_toArray, List.getElem_cons_zero, List.getElem_cons_succ, List.setIfInBounds_toArray, List.set_cons_zero, List.set_cons_succ]
  refine wpAnyH_ready (rs := [10]) (by kernel_rfl) (by simp) ?_
  refine AllReadyH.cons rfl (fun KK hK => ?_) AllReadyH.nil
  rw [if_pos (by rfl)]
  go_simp
  go_at_call 24
  have hlo := lof_any key vs.length Y hk (by omega)
  rw [HOF.out] at hlo
  refine hlo.mono ?_
  clear hlo
  rintro e w2 ⟨rfl, rfl⟩
  go_simp
  refine hK.out _ _ (HS.out _ hbY) (fun hHeld => ?_)
  clear hK KK
  try simp only [Act.put, List.getElem_toArray, List.getElem_cons_zero, List.getElem_cons_succ, List.setIfInBounds_toArray, List.set_cons_zero, List.set_cons_succ]
  refine wpAnyH_take (i := 11) (v := ?v14) rfl (by kernel_rfl) (by kernel_rfl) (by kernel_rfl) (fun _ _ _ h => h) (Or.inl ⟨by rfl, ?hy14⟩) (by assumption) ?rest14
  case hy14 => (intro wy hSw; (try dsimp only at hSw); go_simp; (first | done | with_reducible rfl))
  try simp only [Act.put, List.getElem_toArray, List.getElem_cons_zero, List.getElem_cons_succ, List.setIfInBounds_toArray, List.set_cons_zero, List.set_cons_succ]
  refine wpAnyH_take (i := 12) (v := ?v15) rfl (by kernel_rfl) (by kernel_rfl) (by kernel_rfl) (fun _ _ _ h => h) (Or.inl ⟨by rfl, ?hy15⟩) (by assumption) ?rest15
  case hy15 => (intro wy hSw; (try dsimp only at hSw); go_simp; (first | done | with_reducible rfl))
  try simp only [Act.put, List.getElem_toArray, List.getElem_cons_zero, List.getElem_cons_succ, List.setIfInBounds_toArray, List.set_cons_zero, List.set_cons_succ]
  refine wpAnyH_ready (rs := [16]) (by kernel_rfl) (by simp) ?_
  refine AllReadyH.cons rfl (fun KK hK => ?_) AllReadyH.nil
  rw [if_pos (by rfl)]
  go_simp
  refine HCALL.out.mono ?_
  rintro e w1 ⟨rfl, G1, hd1, hn1⟩
  have hob := HDY.out.fam.ob i hil
  have HST := keepG (HDY.out.step hil (s' := s') (G := G1) hd1 hn1)
  have Hr1 := keepG (HrY.out.chg hn1.chg (hob.other HrY.out (by decide) (by decide) (by decide) (by decide)))
  have y0 : w1.cell? ⟨m, 2, none⟩ = some (.slice (some ⟨g, 0, none⟩) vs.length cc) := HST.out.1.hp.cell (j := 2) rfl
  have y1 : w1.cell? ⟨g, i, none⟩ = some (.iface t u) := by
    obtain ⟨g', c', ev, _, _, _, _, hat'⟩ := own_atG ifC_len .nilIface HST.out.1.row (by omega)
    simp only [Value.slice.injEq, Option.some.injEq, Addr.mk.injEq, true_and, and_true] at ev
    obtain ⟨rfl, rfl⟩ := ev
    have := (hat' i hil 0 (by omega)).1
    simp only [List.getElem?_cons_zero, Nat.add_zero, Nat.mul_one] at this
    rw [HEV.out] at this
    exact this
  have x0 := Hr1.out.cell (j := 0) rfl
  have f0 := Hr1.out.frozen 0
  have x1 := Hr1.out.cell (j := 1) rfl
  have f1 := Hr1.out.frozen 1
  have x2 := Hr1.out.cell (j := 2) rfl
  have f2 := Hr1.out.frozen 2
  have x3 := Hr1.out.cell (j := 3) rfl
  have f3 := Hr1.out.frozen 3
  have x4 := Hr1.out.cell (j := 4) rfl
  have f4 := Hr1.out.frozen 4
  have x5 := Hr1.out.cell (j := 5) rfl
  have f5 := Hr1.out.frozen 5
  clear hd1 hn1 hob
  go_simp
  refine hK.out _ _ ⟨y0, y1⟩ (fun hHeld => ?_)
  clear hK KK
  try simp only [Act.put, List.getElem_toArray, List.getElem_cons_zero, List.getElem_cons_succ, List.setIfInBounds_toArray, List.set_cons_zero, List.set_cons_succ]
  refine wpAnyH_ready (rs := [17]) (by kernel_rfl) (by simp) ?_
  refine AllReadyH.cons rfl (fun KK hK => ?_) AllReadyH.nil
  rw [if_pos (by rfl)]
  go_simp
  refine hK.out _ _ (by go_keep) (fun hHeld => ?_)
  clear hK KK
  try simp only [Act.put, List.getElem_toArray, List.getElem_cons_zero, List.getElem_cons_succ, List.setIfInBounds_toArray, List.set_cons_zero, List.set_cons_succ]
  refine wpAnyH_done (by kernel_rfl) ?_ _
  go_wp2
  exact res_endL (fun w' F' => Lmo w' B m n cap κ k (st.set i s') F') (fun h hc ha => h.keeps hc ha) hbY hzY hlies Hr1.out rfl ⟨_, vs, _, HST.out.1, HLen.out, rfl⟩ HST.out.2 rfl
end
end Go.Proofs.Ytinoelooccmmnaa
namespace Go.Proofs.Ytinoelooccmmnaa
open Go.RowKit
set_option linter.unusedVariables false
set_option linter.unusedSimpArgs false
set_option maxRecDepth 100000

abbrev defW (k c : Int) : Value := .agg #[.int .i64 k, .int .i64 c]
def kindJ (κ : Bool) : Int := if κ = true then 1 else 0
def defNoL (k c : Int) : Prop := (k ≠ 0 ∧ k ≠ 1) ∨ c < 1 ∨ 16 < c
theorem Sh.shape {w : World} {B : Nat} {v : Value} {κ : Bool} {cap : Nat} {s : Sr} {F : Ft} (h : Sh w B v κ cap s F) : ∃ t u, v = .iface t u := by
  rcases h with ⟨_, b, rfl, _⟩ | ⟨_, l, rfl, _⟩
  · exact ⟨_, _, rfl⟩
  · exact ⟨_, _, rfl⟩
theorem Sh.one {w : World} {B : Nat} {v : Value} {κ : Bool} {cap : Nat} {s : Sr} {F : Ft} (h : Sh w B v κ cap s F) : ∀ u ∈ ifC v, u.oneCell' = true := by
  rcases h with ⟨_, b, rfl, _⟩ | ⟨_, l, rfl, _⟩
  · intro u hu; simp at hu; subst hu; rfl
  · intro u hu; simp at hu; subst hu; rfl
section
variable {w0 w w2 : World} {B r cap : Nat} {κ : Bool} {k : Int} {rv v2 : Value} {ps : List Value} {st : List Sr} {F : Nat → Ft}
/-- One shard more. -/
theorem Lm.more (h : Lm w B r cap κ k rv ps st F) {w1 : World} {p : Value} {s : Sr} {G : Ft} (hb1 : Below w.heap.size w w1) (hs : Sh w1 B p κ cap s G) (hG : Since w G) {o : Obj} (hB : B ≤ w.heap.size) (hown : w2.ownsRow B 55 1 v2 (ps.length + 1) (flatG ifC ps ++ ifC p)) (hgr : (w1.alloc o).grownBy w2 rv.ownBlock) :
    Lm (w2.setCell ⟨r, 2, none⟩ v2) B r cap κ k v2 (ps ++ [p]) (st ++ [s]) (upd F ps.length G) := by
  have h1 := h.below hb1
  have hc2 := chg_append hgr
  have hc3 : Chg w2 (w2.setCell ⟨r, 2, none⟩ v2) (fun k => k = r) := Chg.set _ _ _ _
  have hrow1 : ∀ k, rv.ownBlock = some k → ∃ cs, Hp w1 k 55 cs := fun k hk => own_hpC h1.row hk
  have hr1 : rv.ownBlock ≠ some r := own_type10 h1.row h1.hp (by decide)
  have hp2 : Hp w2 r 69 [.int .i64 k, .int .i64 cap, rv] := h1.hp.chg hc2 (fun e => hr1 e)
  have hv2 : v2.ownBlock ≠ some r := own_type10 hown hp2 (by decide)
  have key : ∀ {q : Value} {t : Sr} {H : Ft}, Sh w1 B q κ cap t H → Sh (w2.setCell ⟨r, 2, none⟩ v2) B q κ cap t H := fun {q t H} hd => by
    have hd2 : Sh w2 B q κ cap t H := hd.keeps hc2 (fun k e1 e2 => by
      obtain ⟨cs, hq⟩ := hrow1 k e1
      exact hd.other hq (by decide) (by decide) (by decide) (by decide) e2)
    exact hd2.keeps hc3 (fun k e1 e2 => by subst e1; exact hd2.other hp2 (by decide) (by decide) (by decide) (by decide) e2)
  have hl : (ps ++ [p]).length = ps.length + 1 := by simp
  refine ⟨hp2.set 2 v2, ?_, by simp [h.len], ?_⟩
  · rw [hl, flatG_more]
    exact own_chg hown hc3 (fun k hk e => by subst e; exact hv2 hk)
  · rw [hl]
    refine Fam.more (P := fun w i G => Sh w B (ps.getD i .nilIface) κ cap (st.getD i Sr.nil) G) h.fam ?_ hG (key hs).lies ?_ (fun j hj hd => ?_)
    · exact Nat.le_trans (Nat.le_trans hb1.size hc2.size) hc3.size
    · have e1 : (ps ++ [p]).getD ps.length .nilIface = p := by simp
      have e2 : (st ++ [s]).getD ps.length Sr.nil = s := by rw [← h.len]; simp
      show Sh _ B ((ps ++ [p]).getD ps.length .nilIface) κ cap ((st ++ [s]).getD ps.length Sr.nil) G
      rw [e1, e2]
      exact key hs
    · have e1 : (ps ++ [p]).getD j .nilIface = ps.getD j .nilIface := by simp [List.getElem?_append_left hj]
      have e2 : (st ++ [s]).getD j Sr.nil = st.getD j Sr.nil := by simp [List.getElem?_append_left (show j < st.length by rw [h.len]; exact hj)]
      show Sh _ B ((ps ++ [p]).getD j .nilIface) κ cap ((st ++ [s]).getD j Sr.nil) (F j)
      rw [e1, e2]
      exact key (hd.below hb1)
end
/-- The landed map as it is being made. -/
structure Ln (w wr : World) (cap : Nat) (κ : Bool) (kk : Int) (rv : Value) (ps : List Value) (F : Nat → Ft) (j : Nat) : Prop where
  m : Lm wr w.heap.size (w.heap.size + 1) cap κ kk rv ps (List.replicate j Sr.nil) F
  l : ps.length = j
  s : Since w (footN (w.heap.size + 1) rv ps.length F)
  d : Hp wr w.heap.size 24 [.int .i64 kk, .int .i64 cap]
  b : Below w.heap.size w wr
theorem Ln.next {w wr w1 w2 : World} {cap : Nat} {κ : Bool} {kk : Int} {rv v2 : Value} {ps : List Value} {F : Nat → Ft} {j : Nat} {p : Value} {G : Ft} {o : Obj} (h : Ln w wr cap κ kk rv ps F j) (hb1 : Below wr.heap.size wr w1) (hs : Sh w1 wr.heap.size p κ cap Sr.nil G) (hG : Since wr G) (hown : w2.ownsRow w.heap.size 55 1 v2 (ps.length + 1) (flatG ifC ps ++ ifC p)) (hgr : (w1.alloc o).grownBy w2 rv.ownBlock) :
    Ln w (w2.setCell ⟨w.heap.size + 1, 2, none⟩ v2) cap κ kk v2 (ps ++ [p]) (upd F ps.length G) (j + 1) ∧ w2.cell? ⟨w.heap.size + 1, 2, none⟩ = some rv ∧ w2.frozen? ⟨w.heap.size + 1, 2, none⟩ = false := by
  have hzw := h.b.size
  have hm1 := h.m.below hb1
  have hc2 := chg_append hgr
  have hb1w : Below w.heap.size w w1 := h.b.trans (hb1.mono hzw)
  have hp2 := hm1.hp.chg hc2 (own_type10 hm1.row hm1.hp (by decide))
  have hd1 := h.d.below hb1 h.d.lt
  have hd2 := hd1.chg hc2 (own_type10 hm1.row hd1 (by decide))
  have hb2 : Below w.heap.size w w2 := hb1w.trans (hc2.below (fun k e => (hm1.row.lt k e).1) hb1w.size)
  have hmr := h.m.more hb1 (hs.low hzw) hG hzw hown hgr
  rw [show List.replicate j Sr.nil ++ [Sr.nil] = List.replicate (j + 1) Sr.nil from List.replicate_succ'.symm] at hmr
  refine ⟨⟨hmr, by rw [List.length_append, h.l]; rfl, fun k hk => ?_, hd2.far (by omega), ?_⟩, hp2.cell (j := 2) rfl, hp2.frozen 2⟩
  · rcases hk with e | e | ⟨i, hi, e⟩
    · omega
    · exact (hown.lt k e).1
    · by_cases e2 : i = ps.length
      · subst e2
        rw [upd_same] at e
        exact Nat.le_trans hzw (hG k e)
      · rw [upd_other F G e2] at e
        exact h.s k (.inr (.inr ⟨i, by rw [List.length_append] at hi; simp at hi; omega, e⟩))
  · refine hb2.trans ((Chg.set w2 (w.heap.size + 1) 2 v2).below (fun k e => ?_) hb2.size)
    omega
set_option maxHeartbeats 8000000 in
theorem lnewM_ok (κ : Bool) (cap n : Nat) (h1 : 1 ≤ cap) (h2 : cap ≤ 16) (hn : 1 ≤ n) (hn4 : n ≤ 4) (w : World) : Calls Try.prog 8 #[defW (kindJ κ) cap, .int .i64 n] w fun e w' => ∃ r G, e = .returned (.tuple #[.pointer (some ⟨r, 0, none⟩), .int .i64 0]) ∧ Lmo w' w.heap.size r n cap κ (kindJ κ) (List.replicate n Sr.nil) G ∧ Since w G ∧ Below w.heap.size w w' := by
  obtain ⟨kk, HKK⟩ : ∃ kk, Hid (kindJ κ = kk) := ⟨_, rfl⟩
  rw [HKK.out]
  obtain ⟨i0, hi0, hz0, hzs, hzb⟩ := info_parts infoIf
  obtain ⟨X, HX, hbX, hpX⟩ : ∃ X, Hid (w.alloc (.cells #[.int .i64 kk, .int .i64 cap] 24) = X) ∧ Below w.heap.size w X ∧ Hp X w.heap.size 24 [.int .i64 kk, .int .i64 cap] := ⟨_, rfl, below_allocG _ _, Hp.new w [.int .i64 kk, .int .i64 cap] _⟩
  have hzX : X.heap.size = w.heap.size + 1 := by rw [← HX.out]; simp
  obtain ⟨Z, HZ, hbZ, hpZ⟩ : ∃ Z, Hid (X.alloc (.cells #[.int .i64 kk, .int .i64 cap, .slice none 0 0] 69) = Z) ∧ Below X.heap.size X Z ∧ Hp Z X.heap.size 69 [.int .i64 kk, .int .i64 cap, .slice none 0 0] := ⟨_, rfl, below_allocG _ _, Hp.new X [.int .i64 kk, .int .i64 cap, .slice none 0 0] _⟩
  have hn1I : ¬ (n : Int) < 1 := by omega
  have hn4I : ¬ (4 : Int) < n := by omega
  have HD0 : Hid (Ln w Z cap κ kk (.slice none 0 0) [] (fun _ _ => False) 0) := ⟨⟨by rw [← hzX]; exact hpZ, World.ownsRow_nil _ _ _ _, rfl, Fam.nil⟩, rfl, fun k hk => by
    rcases hk with e | e | ⟨i, hi, _⟩
    · omega
    · cases e
    · exact absurd hi (by simp), hpX.below hbZ hpX.lt, hbX.trans (hbZ.mono (by omega))⟩
  have HZZ : Hid ((w.alloc (.cells #[.int .i64 kk, .int .i64 cap] 24)).alloc (.cells #[.int .i64 kk, .int .i64 cap, .slice none 0 0] 69) = Z) := by show _ = _; rw [HX.out]; exact HZ.out
  clear hpX hpZ hbX hbZ hzX
  go_enter Try.func8, Try.ntmps8
  go_wp2
  rw [HZZ.out]
  go_loopw [19] (fun i wr => ∃ j : Nat, j ≤ n ∧ i = .int .i64 j ∧ ∃ rv ps F, Hid (Ln w wr cap κ kk rv ps F j)) (fun i _ => n - (intOf i).toNat)
  case atStart => exact ⟨0, by omega, rfl, _, [], _, HD0.out⟩
  case round =>
    obtain ⟨j, hj, rfl, rv, ps, F, HM⟩ := hrel
    rename World => wr
    have hzw := HM.out.b.size
    by_cases hlt : j < n
    · have hltI : (j : Int) < n := by omega
      have hps : ps.length ≤ 4 := by have := HM.out.l; omega
      have c0 := HM.out.d.cell (j := 0) rfl
      have c1 := HM.out.d.cell (j := 1) rfl
      obtain ⟨xa, xc, rfl⟩ := own_shape HM.out.m.row
      have hmk := lmake_ok κ cap h1 h2 wr
      rw [show (if κ = true then (1 : Int) else 0) = kk from HKK.out] at hmk
      have HMK := keepG hmk
      clear hmk
      go_wp2_with (first
        | (go_at_call 19; go_must (refine HMK.out.mono ?_); rintro e w1 ⟨p, G, rfl, hds, hsG, hb1⟩; go_must (obtain ⟨tt, uu, rfl⟩ := hds.shape; have hone : ∀ u ∈ ifC (.iface tt uu), u.oneCell' = true := hds.one; have HD1 := keepG hds; have HG1 := keepG hsG; have HM1 := keepG (HM.out.m.below hb1); have r0 := HM1.out.hp.cell (j := 2) rfl; have hz1 := hb1.size; have hlr := HM1.out.hp.lt; clear hds hsG))
        | (at_builtin; go_must (refine wpList_append_own_at _ rfl (.tmp 33) (.tmp 35) 67 rfl w.heap.size 55 i0 _ 1 16 Try.underlying67 hi0 hz0 hzs hzb rfl (by decide) (.slice xa ps.length xc) ps.length (flatG ifC ps) rfl (HM1.out.row.alloc _) ⟨_, 0, none⟩ 1 1 (ifC (.iface tt uu)) rfl rfl (cells_new _ (ifC (.iface tt uu)) _ _ rfl) hone (by unfold maxLen; omega) (by omega) (by simp; omega) ?_); intro v2 w2 hown hgr _ hnew; go_must (obtain ⟨hmr, z0, zf0⟩ := HM.out.next hb1 HD1.out HG1.out hown hgr; have HMR := keepG hmr; obtain ⟨va, vc, rfl⟩ := own_shape hown; clear hown hgr hnew hmr)))
      first
        | (go_roundw
           case rel => exact ⟨j + 1, by omega, by go_num, _, _, _, HMR⟩
           case measure => simp [intOf]; omega)
        | exact ⟨⟨j + 1, by omega, by go_num, _, _, _, HMR⟩, by simp [intOf]; omega⟩
    · have hltI : ¬ (j : Int) < n := by omega
      have HE : Hid (j = n) := by show _ = _; omega
      go_wp2
      go_ret2
      refine ⟨w.heap.size + 1, rfl, footN (w.heap.size + 1) rv ps.length F, ?_, HM.out.s, HM.out.b⟩
      have := HM.out
      rw [HE.out] at this
      exact ⟨rv, ps, F, this.m, this.l, rfl⟩
theorem lnewM_no (k c n : Int) (h : (n < 1 ∨ 4 < n) ∨ defNoL k c) (w : World) : Calls Try.prog 8 #[defW k c, .int .i64 n] w fun e w' => e = .returned (.tuple #[.pointer none, .int .i64 2]) ∧ Below w.heap.size w w' := by
  by_cases h1 : n < 1
  · go_enter Try.func8, Try.ntmps8
    go_wp2
    go_ret2
    exact ⟨rfl, below_allocG _ _⟩
  by_cases h4 : 4 < n
  · go_enter Try.func8, Try.ntmps8
    go_wp2
    go_ret2
    exact ⟨rfl, below_allocG _ _⟩
  have hd : defNoL k c := by rcases h with (g | g) | g; exact absurd g h1; exact absurd g h4; exact g
  have h0 : (0 : Int) < n := by omega
  obtain ⟨X, HX, hbX, hpX⟩ : ∃ X, Hid ((w.alloc (.cells #[.int .i64 k, .int .i64 c] 24)).alloc (.cells #[.int .i64 k, .int .i64 c, .slice none 0 0] 69) = X) ∧ Below w.heap.size w X ∧ Hp X w.heap.size 24 [.int .i64 k, .int .i64 c] := ⟨_, rfl, (below_allocG _ _).alloc (by simp) _, (Hp.new w [.int .i64 k, .int .i64 c] _).alloc _⟩
  have hzX := hbX.size
  have c0 := hpX.cell (j := 0) rfl
  have c1 := hpX.cell (j := 1) rfl
  go_enter Try.func8, Try.ntmps8
  go_wp2
  rw [HX.out]
  go_loopw [19] (fun i wr => i = .int .i64 0 ∧ X = wr) (fun i _ => 1)
  case atStart => exact ⟨rfl, rfl⟩
  case round =>
    obtain ⟨rfl, rfl⟩ := hrel
    go_wp2_with (go_at_call 19; go_must (refine (lmake_no k c hd X).mono ?_); rintro e w1 ⟨rfl, hb1⟩)
    go_ret2
    exact ⟨rfl, hbX.trans (hb1.mono hzX)⟩
end Go.Proofs.Ytinoelooccmmnaa
namespace Go.Proofs.Ytinoelooccmmnaa
open Go.RowKit
set_option linter.unusedVariables false
set_option linter.unusedSimpArgs false
set_option maxRecDepth 100000

theorem walkL_more {ts : List Sr} {j : Nat} (hj : j < ts.length) : walkM (ts.take (j + 1)) = walkM (ts.take j) ++ (ts.getD j Sr.nil).1 := by
  unfold walkM
  have h1 : ts.take (j + 1) = ts.take j ++ [ts.getD j Sr.nil] := by
    rw [List.take_add_one, List.getD_eq_getElem?_getD, List.getElem?_eq_getElem hj]
    rfl
  rw [h1, List.flatMap_append]
  simp
theorem walkL_len {ts : List Sr} {c : Nat} (h : ∀ i, i < ts.length → (ts.getD i Sr.nil).1.length ≤ c) : ∀ j, j ≤ ts.length → (walkM (ts.take j)).length ≤ j * c := by
  intro j
  induction j with
  | zero => intro _; simp [walkM]
  | succ j ih =>
    intro hj
    rw [walkL_more (by omega), List.length_append, Nat.add_mul, Nat.one_mul]
    have := ih (by omega)
    have := h j (by omega)
    omega
section
variable {w : World} {B m n cap : Nat} {κ : Bool} {k : Int} {st : List Sr} {G : Ft}
set_option maxHeartbeats 8000000 in
theorem Lmo.walk (h : Lmo w B m n cap κ k st G) (hv : InvM κ cap st) (hn4 : n ≤ 4) (hc16 : cap ≤ 16) {W : List Pp} (HW : Hid (walkM st = W)) :
    Calls Try.prog 15 #[.pointer (some ⟨m, 0, none⟩)] w fun e w' => ∃ u, e = .returned u ∧ w'.ownsRow w.heap.size 64 2 u W.length (flatG ppC W) ∧ Below w.heap.size w w' := by
  obtain ⟨rv, vs, F, h1, hpn, rfl⟩ := h
  obtain ⟨i0, hi0, hz0, hzs, hzb⟩ := info_parts infoPr
  have htl := h1.len
  have hwl := walkL_len (ts := st) (c := 16) (fun i hi => Nat.le_trans (hv i hi).len hc16)
  have HWL := keepG hwl
  clear hwl
  have HH := keepG h1
  have c0 := h1.hp.cell (j := 2) rfl
  obtain ⟨xa, xc, rfl⟩ := own_shape h1.row
  have hv4 : vs.length ≤ 4 := by omega
  have HTL := keepG htl
  clear h1 htl hpn
  go_enter Try.func15, Try.ntmps15
  go_wp2
  go_loopw [3, 11] (fun ov i wr => ∃ j : Nat, j ≤ vs.length ∧ i = .int .i64 j ∧ Hid (wr.ownsRow w.heap.size 64 2 ov (walkM (st.take j)).length (flatG ppC (walkM (st.take j)))) ∧ Below w.heap.size w wr) (fun _ i _ => vs.length - (intOf i).toNat)
  case atStart => exact ⟨0, by omega, rfl, World.ownsRow_nil _ _ _ _, Below.refl _ _⟩
  case round =>
    obtain ⟨j, hj, rfl, HO, hbw⟩ := hrel
    rename World => wr
    have hzw := hbw.size
    have HR := keepG (HH.out.below hbw)
    obtain ⟨oa, oc, ev⟩ := own_shape HO.out
    subst ev
    by_cases hlt : j < vs.length
    · have hltI : (j : Int) < vs.length := by omega
      have hltS : j < st.length := by have := HTL.out; omega
      obtain ⟨g, cc, ev, _, hg, _, _, hat⟩ := own_atG ifC_len .nilIface HR.out.row (by omega)
      simp only [Value.slice.injEq, true_and] at ev
      obtain ⟨rfl, rfl⟩ := ev
      have d0 := (hat j hlt 0 (by omega)).1
      simp only [List.getElem?_cons_zero, Nat.add_zero, Nat.mul_one] at d0
      clear hat
      obtain ⟨ff, fx, hvia, hcall⟩ := (HR.out.fam.ob j hlt).pairs (hv j hltS) hc16
      obtain ⟨t, u, ev, hmeth, hcf⟩ := hvia
      rw [ev] at d0
      have HPR := keepG hcall
      clear ev hcall
      have HM := keepG (walkL_more (ts := st) (j := j) hltS)
      have hMl : (walkM (st.take j)).length ≤ 64 := by have := HWL.out j (by omega); omega
      have hsl : (st.getD j Sr.nil).1.length ≤ 16 := Nat.le_trans (hv j hltS).len hc16
      obtain ⟨M, HMM⟩ : ∃ M, Hid (walkM (st.take j) = M) := ⟨_, rfl⟩
      obtain ⟨T, HTT⟩ : ∃ T, Hid ((st.getD j Sr.nil).1 = T) := ⟨_, rfl⟩
      rw [HMM.out, HTT.out] at HM
      rw [HMM.out] at HO hMl ⊢
      rw [HTT.out] at hsl HPR
      have P1 : True := trivial
      go_wp2_with (first
        | (show Calls Try.prog ff _ _ _; go_must (refine HPR.out.mono ?_); rintro e w1 ⟨u1, rfl, ho1, hb1⟩; go_must (obtain ⟨v2, w2, hr2, ho2, hg2, _⟩ := run_append_seesG (f := ppC) (d := Pp.nil) (P := Try.prog) w1 w.heap.size 43 43 64 i0 _ 2 16 Try.underlying43 hi0 hz0 hzs hzb rfl (by decide) (.slice oa M.length oc) M.length (flatG ppC M) (own_below HO.out hb1 (Nat.le_refl _)) ppC_len (own_seesG ppC_len Pp.nil ho1) (flat_one T) (by unfold maxLen; omega) (by omega) (by have := hb1.size; omega); have HR2 := keepG hr2; have HO2 := keepG ho2; have hb2 : Below w.heap.size w w2 := (hbw.trans (hb1.mono hzw)).trans ((Chg.of_grown' hg2 (S := fun k => (Value.slice oa M.length oc).ownBlock = some k) (fun b hb => hb)).below (fun k e => (HO.out.lt k e).1) (by have := hb1.size; omega)); obtain ⟨ua, uc, rfl⟩ := own_shape ho1; clear hr2 ho2 hg2 ho1 P1))
        | (at_builtin; go_must (refine wpList_appG _ rfl (.tmp 15) (.tmp 17) 43 43 rfl _ _ rfl rfl HR2.out ?_; obtain ⟨va, vc, rfl⟩ := own_shape HO2.out)))
      have eM : (M ++ T).length = M.length + T.length := List.length_append
      first
        | (go_roundw
           case rel => exact ⟨j + 1, by omega, by go_num, by have hh := HO2.out; rw [HM.out, flatG_app]; show World.ownsRow _ _ _ _ _ _ _; rw [eM]; exact hh, hb2⟩
           case measure => simp [intOf]; omega)
        | exact ⟨⟨j + 1, by omega, by go_num, by have hh := HO2.out; rw [HM.out, flatG_app]; show World.ownsRow _ _ _ _ _ _ _; rw [eM]; exact hh, hb2⟩, by simp [intOf]; omega⟩
    · have hltI : ¬ (j : Int) < vs.length := by omega
      have hT : st.take j = st := List.take_of_length_le (by have := HTL.out; omega)
      obtain ⟨M, HMM⟩ : ∃ M, Hid (walkM (st.take j) = M) := ⟨_, rfl⟩
      rw [HMM.out] at HO ⊢
      rw [hT, HW.out] at HMM
      obtain rfl : W = M := HMM.out
      clear hT
      go_wp2
      go_ret
      exact ⟨_, rfl, HO.out, hbw⟩
end
end Go.Proofs.Ytinoelooccmmnaa
namespace Go.Proofs.Ytinoelooccmmnaa
open Go.RowKit
set_option linter.unusedVariables false
set_option linter.unusedSimpArgs false
set_option maxRecDepth 100000

section
variable {w : World} {B m n cap : Nat} {κ : Bool} {k : Int} {st : List Sr} {G : Ft}
theorem Lmo.part (h : Lmo w B m n cap κ k st G) (hv : InvM κ cap st) (hn4 : n ≤ 4) (hc16 : cap ≤ 16) {i : Nat} (hi : i < n) {T : List Pp} (HT : Hid ((st.getD i Sr.nil).1 = T)) :
    Calls Try.prog 17 #[.pointer (some ⟨m, 0, none⟩), .int .i64 i] w fun e w' => ∃ u, e = .returned (.tuple #[u, .int .i64 0]) ∧ w'.ownsRow w.heap.size 64 2 u T.length (flatG ppC T) ∧ Below w.heap.size w w' := by
  obtain ⟨rv, vs, F, h1, hpn, rfl⟩ := h
  have hil : i < vs.length := by omega
  have his : i < st.length := by rw [h1.len]; exact hil
  have c0 := h1.hp.cell (j := 2) rfl
  obtain ⟨g, cc, rfl, _, hg, _, _, hat⟩ := own_atG ifC_len .nilIface h1.row (by omega)
  have d0 := (hat i hil 0 (by omega)).1
  simp only [List.getElem?_cons_zero, Nat.add_zero, Nat.mul_one] at d0
  clear hat
  obtain ⟨ff, fx, hvia, hcall⟩ := (h1.fam.ob i hil).pairs (hv i his) hc16
  obtain ⟨t, u, ev, hmeth, hcf⟩ := hvia
  rw [ev] at d0
  rw [HT.out] at hcall
  have HPR := keepG hcall
  have hi0 : ¬ (i : Int) < 0 := by omega
  have hi1 : ¬ (vs.length : Int) ≤ i := by omega
  have hi2 : (i : Int) < vs.length := by omega
  clear ev hcall h1 hpn
  go_enter Try.func17, Try.ntmps17
  go_wp2_with (show Calls Try.prog ff _ _ _; go_must (refine HPR.out.mono ?_); rintro e w1 ⟨u1, rfl, ho1, hb1⟩)
  go_ret2
  exact ⟨_, rfl, ho1, hb1⟩
theorem Lmo.part_no (h : Lmo w B m n cap κ k st G) (i : Int) (hi : i < 0 ∨ (n : Int) ≤ i) :
    Calls Try.prog 17 #[.pointer (some ⟨m, 0, none⟩), .int .i64 i] w fun e w' => e = .returned (.tuple #[.slice none 0 0, .int .i64 2]) ∧ w = w' := by
  obtain ⟨rv, vs, F, h1, hpn, rfl⟩ := h
  have c0 := h1.hp.cell (j := 2) rfl
  obtain ⟨xa, xc, rfl⟩ := own_shape h1.row
  by_cases h0 : i < 0
  · clear h1
    go_enter Try.func17, Try.ntmps17
    go_wp2
    go_ret2
    exact ⟨rfl, rfl⟩
  · have hi1 : (vs.length : Int) ≤ i := by omega
    clear h1 hpn
    go_enter Try.func17, Try.ntmps17
    go_wp2
    go_ret2
    exact ⟨rfl, rfl⟩
theorem Lmo.lenM (h : Lmo w B m n cap κ k st G) (hv : InvM κ cap st) (hn4 : n ≤ 4) (hc16 : cap ≤ 16) {l : Nat} (HL : Hid ((walkM st).length = l)) :
    Calls Try.prog 16 #[.pointer (some ⟨m, 0, none⟩)] w fun e w' => e = .returned (.int .i64 l) ∧ w = w' := by
  obtain ⟨rv, vs, F, h1, hpn, rfl⟩ := h
  have hwl := walkL_len (ts := st) (c := 16) (fun i hi => Nat.le_trans (hv i hi).len hc16)
  have HWL := keepG hwl
  have HTL := keepG h1.len
  have HH := keepG h1
  have c0 := h1.hp.cell (j := 2) rfl
  obtain ⟨xa, xc, rfl⟩ := own_shape h1.row
  have hv4 : vs.length ≤ 4 := by omega
  clear h1 hpn hwl
  go_enter Try.func16, Try.ntmps16
  go_wp2
  go_loopw [3, 11] (fun t i wr => ∃ j q : Nat, j ≤ vs.length ∧ i = .int .i64 j ∧ t = .int .i64 q ∧ Hid ((walkM (st.take j)).length = q) ∧ q ≤ 64 ∧ w = wr) (fun _ i _ => vs.length - (intOf i).toNat)
  case atStart => exact ⟨0, 0, by omega, rfl, rfl, rfl, by omega, rfl⟩
  case round =>
    obtain ⟨j, q, hj, rfl, rfl, HQ, hq64, rfl⟩ := hrel
    by_cases hlt : j < vs.length
    · have hltI : (j : Int) < vs.length := by omega
      have hltS : j < st.length := by have := HTL.out; omega
      obtain ⟨g, cc, ev, _, hg, _, _, hat⟩ := own_atG ifC_len .nilIface HH.out.row (by omega)
      simp only [Value.slice.injEq, true_and] at ev
      obtain ⟨rfl, rfl⟩ := ev
      have d0 := (hat j hlt 0 (by omega)).1
      simp only [List.getElem?_cons_zero, Nat.add_zero, Nat.mul_one] at d0
      clear hat
      obtain ⟨ff, fx, hvia, hcall⟩ := (HH.out.fam.ob j hlt).len
      obtain ⟨t, u, ev, hmeth, hcf⟩ := hvia
      rw [ev] at d0
      have HPR := keepG hcall
      clear ev hcall
      obtain ⟨a, HA⟩ : ∃ a, Hid ((st.getD j Sr.nil).1.length = a) := ⟨_, rfl⟩
      rw [HA.out] at HPR
      have HQ2 : Hid ((walkM (st.take (j + 1))).length = q + a) := by
        show _ = _
        rw [walkL_more hltS, List.length_append, HQ.out, HA.out]
      have hqa : q + a ≤ 64 := by have h9 := HWL.out (j + 1) (by omega); rw [HQ2.out] at h9; omega
      have hwr : IntKind.i64.wrap ((q : Int) + a) = (q : Int) + a := by rw [IntKind.wrap_i64]; omega
      go_wp2_with (show Calls Try.prog ff _ _ _; go_must (refine HPR.out.mono ?_); rintro e w1 ⟨rfl, rfl⟩)
      first
        | (go_roundw
           case rel => exact ⟨j + 1, q + a, by omega, by go_num, by go_num, HQ2.out, hqa, trivial⟩
           case measure => simp [intOf]; omega)
        | exact ⟨⟨j + 1, q + a, by omega, by go_num, by go_num, HQ2.out, hqa, rfl⟩, by simp [intOf]; omega⟩
        | exact ⟨⟨j + 1, q + a, by omega, by go_num, by go_num, HQ2.out, hqa, trivial⟩, by simp [intOf]; omega⟩
    · have hltI : ¬ (j : Int) < vs.length := by omega
      have hT : st.take j = st := List.take_of_length_le (by have := HTL.out; omega)
      rw [hT, HL.out] at HQ
      obtain rfl : l = q := HQ.out
      clear hT
      go_wp2
      go_ret
      exact ⟨rfl, rfl⟩
theorem run_boxDef {w : World} {n : Nat} {a b : Int} (h : Hp w n 24 [.int .i64 a, .int .i64 b]) : (loadVar 24 ⟨n, 0, none⟩).run Try.prog w = .ok (.agg #[.int .i64 a, .int .i64 b]) w := by
  refine run_loadVar_mid w n 0 24 [.int .i64 a, .int .i64 b] _ ?_ Try.underlying24 rfl (by kernel_rfl)
  intro j x hx
  rw [Nat.zero_add]
  exact h.cell hx
theorem def_ret {fn : Func} {pt : Tmp} {w2 : World} {n : Nat} {tmps : Array Value} {a b : Int} {Q : Ending → World → Prop} (hr : fn.results = #[.cell pt 24]) (hp : tmps.getD pt undef = .pointer (some ⟨n, 0, none⟩)) (hx : Hp w2 n 24 [.int .i64 a, .int .i64 b]) (hQ : Q (.returned (defW a b)) w2) : bodyPost Try.prog fn Q .ret ⟨tmps, []⟩ w2 := by
  refine bodyPost_ret (v := defW a b) ?_ rfl hQ
  rw [results_cellG hr, hp]
  simp only [asAddr, Sem.run_pure, Result.andThen]
  rw [run_boxDef hx]
theorem Lmo.defM (h : Lmo w B m n cap κ k st G) :
    Calls Try.prog 10 #[.pointer (some ⟨m, 0, none⟩)] w fun e w' => e = .returned (defW k cap) ∧ Below w.heap.size w w' := by
  obtain ⟨rv, vs, F, h1, hpn, rfl⟩ := h
  have c0 := h1.hp.cell (j := 0) rfl
  have c1 := h1.hp.cell (j := 1) rfl
  have hlt := h1.hp.lt
  have hp := Hp.new w [.int .i64 0, .int .i64 0] 24
  have x0 := hp.cell (j := 0) rfl
  have f0 := hp.frozen 0
  have x1 := hp.cell (j := 1) rfl
  have f1 := hp.frozen 1
  clear h1
  go_enter Try.func10, Try.ntmps10
  go_wp2
  exact def_ret rfl rfl (Hp.new w [.int .i64 k, .int .i64 cap] _) ⟨rfl, below_allocG _ _⟩
end
end Go.Proofs.Ytinoelooccmmnaa
namespace Go.Proofs.Ytinoelooccmmnaa
open Go.RowKit
set_option linter.unusedVariables false
set_option linter.unusedSimpArgs false
set_option maxRecDepth 100000

/-- An item. -/
structure It where
  m : Int
  op : Int
  k : Int
  v : Int
def It.nil : It := ⟨0, 0, 0, 0⟩
def It.wf (i : It) : Prop := 0 ≤ i.k ∧ i.k < 18446744073709551616
abbrev itC (i : It) : List Value := [.int .i64 i.m, .int .i64 i.op, .int .u64 i.k, .int .u64 i.v]
theorem itC_len (i : It) : (itC i).length = 4 := rfl
def Rq.nil : Rq := ⟨0, false, 0, false, 0, 0⟩
abbrev rqC (q : Rq) : List Value := [.int .i64 q.E, .bool q.f, .int .u64 q.v, .bool q.o, .int .u64 q.k, .int .u64 q.u]
theorem rqC_len (q : Rq) : (rqC q).length = 6 := rfl
theorem rqC_one (q : Rq) : ∀ u ∈ rqC q, u.oneCell' = true := by
  intro u hu
  simp at hu
  rcases hu with rfl | rfl | rfl | rfl | rfl | rfl <;> rfl
theorem infoRq : (Try.prog.info? 37).map (fun i => (i.zero, i.size, i.bytes)) = some (some (.agg #[.int .i64 0, .bool false, .int .u64 0, .bool false, .int .u64 0, .int .u64 0]), 6, 48) := by kernel_rfl
/-- Items, one behind the other: what they are answered, and the map behind them. -/
def runM (κ : Bool) (cap : Nat) : List Sr → List It → List Rq × List Sr
  | st, [] => ([], st)
  | st, i :: is => ((doM κ cap st i.op i.k i.v).1 :: (runM κ cap (doM κ cap st i.op i.k i.v).2 is).1, (runM κ cap (doM κ cap st i.op i.k i.v).2 is).2)
theorem runM_app (κ : Bool) (cap : Nat) (is : List It) (i : It) : ∀ st, runM κ cap st (is ++ [i]) = ((runM κ cap st is).1 ++ [(doM κ cap (runM κ cap st is).2 i.op i.k i.v).1], (doM κ cap (runM κ cap st is).2 i.op i.k i.v).2) := by
  induction is with
  | nil => intro st; rfl
  | cons q qs ih =>
    intro st
    rw [List.cons_append, runM, ih, runM]
    rfl
theorem runM_len (κ : Bool) (cap : Nat) (is : List It) : ∀ st, (runM κ cap st is).1.length = is.length ∧ (runM κ cap st is).2.length = st.length := by
  induction is with
  | nil => intro st; exact ⟨rfl, rfl⟩
  | cons q qs ih =>
    intro st
    obtain ⟨h1, h2⟩ := ih (doM κ cap st q.op q.k q.v).2
    refine ⟨?_, ?_⟩
    · show ((doM κ cap st q.op q.k q.v).1 :: (runM κ cap (doM κ cap st q.op q.k q.v).2 qs).1).length = _
      rw [List.length_cons, h1, List.length_cons]
    · show (runM κ cap (doM κ cap st q.op q.k q.v).2 qs).2.length = _
      rw [h2, doM_len]
theorem runM_inv {κ : Bool} {cap n : Nat} (hn : 1 ≤ n) (is : List It) : ∀ {st : List Sr}, (∀ x ∈ is, It.wf x) → st.length = n → InvM κ cap st → InvM κ cap (runM κ cap st is).2 := by
  induction is with
  | nil => intro st _ _ h; exact h
  | cons q qs ih =>
    intro st hw hl h
    exact ih (fun x hx => hw x (List.mem_cons_of_mem _ hx)) (by rw [doM_len]; exact hl) (h.do _ _ _ (by rw [hl]; exact atM_lt hn (hw q List.mem_cons_self).1))
theorem take_moreT {ps : List It} {j : Nat} (hj : j < ps.length) : ps.take (j + 1) = ps.take j ++ [ps.getD j It.nil] := by
  rw [List.take_add_one, List.getD_eq_getElem?_getD, List.getElem?_eq_getElem hj]
  rfl
theorem getD_memT {ps : List It} {j : Nat} (hj : j < ps.length) : ps.getD j It.nil ∈ ps := by
  rw [List.getD_eq_getElem?_getD, List.getElem?_eq_getElem hj]
  exact List.getElem_mem hj
theorem Lmo.other {w : World} {B m n cap : Nat} {κ : Bool} {k : Int} {st : List Sr} {G : Ft} (h : Lmo w B m n cap κ k st G) {b : Nat} {t : TypeId} {cs : List Value} (hp : Hp w b t cs) (h1 : t ≠ 97) (h2 : t ≠ 95) (h3 : t ≠ 64) (h4 : t ≠ 35) (h5 : t ≠ 69) (h6 : t ≠ 55) : ¬ G b := by
  obtain ⟨rv, vs, F, g, _, rfl⟩ := h
  rintro (e | e | ⟨i, hi, e⟩)
  · exact hp_type hp g.hp h5 e
  · exact own_type10 g.row hp (fun e => h6 e.symm) e
  · exact (g.fam.ob i hi).other hp h1 h2 h3 h4 e
section
variable {w : World} {B m n cap : Nat} {κ : Bool} {k : Int} {st : List Sr} {G : Ft}
theorem Lmo.low {B' : Nat} (h : Lmo w B m n cap κ k st G) (hB : B' ≤ B) : Lmo w B' m n cap κ k st G := by
  obtain ⟨rv, vs, F, g, hl, hG⟩ := h
  exact ⟨rv, vs, F, ⟨g.hp, own_lowG g.row hB, g.len, ⟨fun i hi => (g.fam.ob i hi).low hB, g.fam.li, g.fam.ap⟩⟩, hl, hG⟩
set_option maxHeartbeats 8000000 in
theorem Lmo.batch {pv : Value} {is : List It} (h : Lmo w B m n cap κ k st G) (hv : InvM κ cap st) (hn : 1 ≤ n) (hn4 : n ≤ 4) (hc16 : cap ≤ 16) (hB : B ≤ w.heap.size) (hs : SeesG itC 4 It.nil w pv is) (hwf : ∀ x ∈ is, It.wf x) (hlen : is.length ≤ 100000) (hap : Apt G (ftV pv)) {rs : List Rq} {st' : List Sr} (HR : Hid (runM κ cap st is = (rs, st'))) :
    Calls Try.prog 22 #[.pointer (some ⟨m, 0, none⟩), pv] w fun e w' => ∃ u, e = .returned u ∧ ∃ G', w'.ownsRow w.heap.size 37 6 u rs.length (flatG rqC rs) ∧ Lmo w' B m n cap κ k st' G' ∧ Nx w w' G G' := by
  obtain ⟨i0, hi0, hz0, hzs, hzb⟩ := info_parts infoRq
  have HSS : Hid (∀ wr, Chg w wr G → SeesG itC 4 It.nil wr pv is) := fun wr hc => hs.keeps hc hap
  have HLN : Hid (st.length = n) := h.len
  obtain ⟨a, c, rfl, hc, hm, _, _⟩ := hs
  have hm' : c ≤ 9223372036854775807 := by unfold maxLen at hm; omega
  go_enter Try.func22, Try.ntmps22
  go_wp2
  go_loopw [5, 10] (fun rv i wr => ∃ j : Nat, j ≤ is.length ∧ i = .int .i64 j ∧ Hid (wr.ownsRow w.heap.size 37 6 rv (runM κ cap st (is.take j)).1.length (flatG rqC (runM κ cap st (is.take j)).1)) ∧ ∃ G1, Hid (Lmo wr B m n cap κ k (runM κ cap st (is.take j)).2 G1 ∧ Nx w wr G G1)) (fun _ i _ => is.length - (intOf i).toNat)
  case atStart => exact ⟨0, by omega, rfl, World.ownsRow_nil _ _ _ _, G, h, Nx.refl _ _⟩
  case round =>
    obtain ⟨j, hj, rfl, HO, G1, HL⟩ := hrel
    rename World => wr
    have hz1 := HL.out.2.chg.size
    obtain ⟨oa, oc, ev⟩ := own_shape HO.out
    subst ev
    by_cases hlt : j < is.length
    · have hltI : (j : Int) < is.length := by omega
      obtain ⟨a', c', ev, _, _, _, hcell⟩ := HSS.out _ HL.out.2.chg
      simp only [Value.slice.injEq, true_and] at ev
      obtain ⟨rfl, rfl⟩ := ev
      obtain ⟨g, off, rfl, hg, hat⟩ := hcell (fun e => by rw [e] at hlt; simp at hlt)
      have d0 := hat j hlt 0 (by omega)
      have d1 := hat j hlt 1 (by omega)
      have d2 := hat j hlt 2 (by omega)
      have d3 := hat j hlt 3 (by omega)
      simp only [List.getElem?_cons_zero, List.getElem?_cons_succ, Nat.add_zero] at d0 d1 d2 d3
      clear hat hcell
      have hwk := hwf _ (getD_memT hlt)
      obtain ⟨x, HX0⟩ : ∃ x, Hid (is.getD j It.nil = x) := ⟨_, rfl⟩
      rw [HX0.out] at d0 d1 d2 d3 hwk
      have HT : Hid (runM κ cap st (is.take (j + 1)) = ((runM κ cap st (is.take j)).1 ++ [(doM κ cap (runM κ cap st (is.take j)).2 x.op x.k x.v).1], (doM κ cap (runM κ cap st (is.take j)).2 x.op x.k x.v).2)) := by
        show _ = _
        rw [take_moreT hlt, HX0.out, runM_app]
      have HI := keepG (runM_inv hn (is.take j) (fun y hy => hwf y (List.mem_of_mem_take hy)) HLN.out hv)
      have hrl := (runM_len κ cap (is.take j) st).1
      have htl := List.length_take_le j is
      obtain ⟨M, HMM⟩ : ∃ M, Hid ((runM κ cap st (is.take j)).1 = M) := ⟨_, rfl⟩
      obtain ⟨s1, HS1⟩ : ∃ s1, Hid ((runM κ cap st (is.take j)).2 = s1) := ⟨_, rfl⟩
      rw [HMM.out] at hrl
      rw [HMM.out, HS1.out] at HT
      rw [HS1.out] at HL HI
      rw [HMM.out] at HO ⊢
      have hMl : M.length ≤ 100000 := by omega
      clear hrl htl
      obtain ⟨q, s2, HQ⟩ : ∃ q s2, Hid (doM κ cap s1 x.op x.k x.v = (q, s2)) := ⟨_, _, rfl⟩
      rw [HQ.out] at HT
      obtain ⟨X, HX, hbX, hpX⟩ : ∃ X, Hid (wr.alloc (.cells #[.int .i64 x.m, .int .i64 x.op, .int .u64 x.k, .int .u64 x.v] 41) = X) ∧ Below wr.heap.size wr X ∧ Hp X wr.heap.size 41 (itC x) := ⟨_, rfl, below_allocG _ _, Hp.new wr (itC x) _⟩
      have HLX := keepG (HL.out.1.below hbX)
      have HOX := keepG (own_below HO.out hbX (Nat.le_refl _))
      have q1 := hpX.cell (j := 1) rfl
      have q2 := hpX.cell (j := 2) rfl
      have q3 := hpX.cell (j := 3) rfl
      have hzX := hbX.size
      clear h hpX
      go_wp2_with (first
        | (go_at_call 11; rw [HX.out]; go_must (refine (HLX.out.do_any x.op x.k x.v HI.out hn hn4 hwk hc16 (by omega) HQ).mono ?_); rintro e w2 ⟨rfl, G2, hn2, hx2⟩; go_must (have HN2 := keepG hn2; have HX2 := keepG ((HL.out.2.trans (Nx.below hbX)).trans hx2); have HO2 := keepG (own_chg HOX.out hx2.chg (fun k hk e => by { obtain ⟨cs, hq⟩ := own_hpC HOX.out hk; exact HLX.out.other hq (by decide) (by decide) (by decide) (by decide) (by decide) (by decide) e })); have hz2 := hx2.chg.size; clear hn2 hx2))
        | (at_builtin; go_must (refine wpList_append_own_at _ rfl (.tmp 14) (.tmp 23) 61 rfl w.heap.size 37 i0 _ 6 48 Try.underlying61 hi0 hz0 hzs hzb rfl (by decide) (.slice oa M.length oc) M.length (flatG rqC M) rfl (HO2.out.alloc _) ⟨_, 0, none⟩ 1 1 (rqC q) rfl rfl (cells_new _ (rqC q) _ _ rfl) (rqC_one q) (by unfold maxLen; omega) (by omega) (by simp; omega) ?_); intro v3 w3 hown hgr _ hnew; go_must (have HOW : Hid _ := own_moreG hown; have hc3 := chg_append hgr; have HN3 := keepG (HN2.out.keeps hc3 (fun k e1 e2 => by { obtain ⟨cs, hq⟩ := own_hpC HO2.out e1; exact HN2.out.other hq (by decide) (by decide) (by decide) (by decide) (by decide) (by decide) e2 })); have HX3 : Hid (Nx w w3 G G2) := ⟨HX2.out.chg.trans hc3 (fun k hk e => by { have := (HO2.out.lt k e).1; omega }), HX2.out.new⟩; clear hown hgr hnew hc3; obtain ⟨va1, vc1, rfl⟩ := own_shape HOW.out)))
      have eM : (M ++ [q]).length = M.length + 1 := by simp
      first
        | (go_roundw
           case rel => exact ⟨j + 1, by omega, by go_num, by have hh := HOW.out; rw [HT.out]; show World.ownsRow _ _ _ _ _ _ _; rw [eM] at hh ⊢; exact hh, G2, by rw [HT.out]; exact ⟨HN3.out, HX3.out⟩⟩
           case measure => simp [intOf]; omega)
        | exact ⟨⟨j + 1, by omega, by go_num, by have hh := HOW.out; rw [HT.out]; show World.ownsRow _ _ _ _ _ _ _; rw [eM] at hh ⊢; exact hh, G2, by rw [HT.out]; exact ⟨HN3.out, HX3.out⟩⟩, by simp [intOf]; omega⟩
    · have hltI : ¬ (j : Int) < is.length := by omega
      have hT : is.take j = is := List.take_of_length_le (by omega)
      have HR1 : Hid ((runM κ cap st (is.take j)).1 = rs) := by show _ = _; rw [hT, HR.out]
      have HR2 : Hid ((runM κ cap st (is.take j)).2 = st') := by show _ = _; rw [hT, HR.out]
      rw [HR1.out] at HO ⊢
      rw [HR2.out] at HL
      clear hT
      go_wp2
      go_ret
      exact ⟨_, rfl, HO.out, G1, HL.out⟩
end
end Go.Proofs.Ytinoelooccmmnaa
namespace Go.Proofs.Ytinoelooccmmnaa
open Go.ChangeShapes Go.WideShapes Go.ChangeAt Go.RowKit
set_option linter.unusedVariables false
set_option linter.unusedSimpArgs false
set_option maxRecDepth 100000

set_option maxHeartbeats 4000000 in
/-- Pairs that are alike. -/
theorem wpairs15 {w : World} {va vb : Value} {A : List Pp} (ha : SeesG ppC 2 Pp.nil w va A) (hb : SeesG ppC 2 Pp.nil w vb A) :
    Calls Try.prog 14 #[va, vb] w fun e w' => e = .returned (.bool true) ∧ ∃ n, w' = w.drewN n := by
  obtain ⟨a1, c1, rfl, hc1, hm1, _, hat1⟩ := ha
  obtain ⟨a2, c2, rfl, hc2, hm2, _, hat2⟩ := hb
  unfold maxLen at hm1 hm2
  have HA := keepG hat1
  have HB := keepG hat2
  clear hat1 hat2
  go_enter Try.func14, Try.ntmps14
  go_wp2
  go_loopw [5] (fun i wr => ∃ j : Nat, j ≤ A.length ∧ i = .int .i64 j ∧ ∃ n, wr = w.drewN n) (fun i _ => A.length - (intOf i).toNat)
  case atStart => exact ⟨0, by omega, rfl, 0, rfl⟩
  case round =>
    obtain ⟨j, hj, rfl, n, rfl⟩ := hrel
    by_cases hlt : j < A.length
    · have hltI : (j : Int) < A.length := by omega
      obtain ⟨g1, o1, rfl, _, h1⟩ := HA.out (fun e => by rw [e] at hlt; simp at hlt)
      obtain ⟨g2, o2, rfl, _, h2⟩ := HB.out (fun e => by rw [e] at hlt; simp at hlt)
      obtain ⟨p, HP⟩ : ∃ p, Hid (A.getD j Pp.nil = p) := ⟨_, rfl⟩
      have d0 := h1 j hlt 0 (by omega)
      have d1 := h1 j hlt 1 (by omega)
      have e0 := h2 j hlt 0 (by omega)
      have e1 := h2 j hlt 1 (by omega)
      rw [HP.out] at d0 d1 e0 e1
      simp only [List.getElem?_cons_zero, List.getElem?_cons_succ, Nat.add_zero] at d0 d1 e0 e1
      clear h1 h2
      go_wp2
      refine wp_region_held_drew (S := fun w' => w'.cell? ⟨g1, o1 + j * 2, none⟩ = some (.int .u64 p.k) ∧ w'.cell? ⟨g1, o1 + j * 2 + 1, none⟩ = some (.int .u64 p.v) ∧ w'.cell? ⟨g2, o2 + j * 2, none⟩ = some (.int .u64 p.k) ∧ w'.cell? ⟨g2, o2 + j * 2 + 1, none⟩ = some (.int .u64 p.v)) (by kernel_rfl) ⟨d0, d1, e0, e1⟩ (fun hHeld => ?_)
      refine wpAnyH_take (i := 0) (v := ?v1) rfl (by kernel_rfl) (by kernel_rfl) (by kernel_rfl) (fun _ _ _ h => h) (Or.inl ⟨by rfl, ?hy1⟩) (by assumption) ?rest1
      case hy1 => (intro wy hSw; (try dsimp only at hSw); go_simp; (first | done | with_reducible rfl))
      try simp only [Act.put, List.getElem_toArray, List.getElem_cons_zero, List.getElem_cons_succ, List.setIfInBounds_toArray, List.set_cons_zero, List.set_cons_succ]
      refine wpAnyH_take (i := 1) (v := ?v2) rfl (by kernel_rfl) (by kernel_rfl) (by kernel_rfl) (fun _ _ _ h => h) (Or.inl ⟨by rfl, ?hy2⟩) (by assumption) ?rest2
      case hy2 => (intro wy hSw; (try dsimp only at hSw); go_simp; (first | done | with_reducible rfl))
      try simp only [Act.put, List.getElem_toArray, List.getElem_cons_zero, List.getElem_cons_succ, List.setIfInBounds_toArray, List.set_cons_zero, List.set_cons_succ]
      refine wpAnyH_take (i := 2) (v := ?v3) rfl (by kernel_rfl) (by kernel_rfl) (by kernel_rfl) (fun _ _ _ h => h) (Or.inl ⟨by rfl, ?hy3⟩) (by assumption) ?rest3
      case hy3 => (intro wy hSw; (try dsimp only at hSw); go_simp; (first | done | with_reducible rfl))
      try simp only [Act.put, List.getElem_toArray, List.getElem_cons_zero, List.getElem_cons_succ, List.setIfInBounds_toArray, List.set_cons_zero, List.set_cons_succ]
      refine wpAnyH_take (i := 3) (v := ?v4) rfl (by kernel_rfl) (by kernel_rfl) (by kernel_rfl) (fun _ _ _ h => h) (Or.inl ⟨by rfl, ?hy4⟩) (by assumption) ?rest4
      case hy4 => (intro wy hSw; (try dsimp only at hSw); go_simp; (first | done | with_reducible rfl))
      try simp only [Act.put, List.getElem_toArray, List.getElem_cons_zero, List.getElem_cons_succ, List.setIfInBounds_toArray, List.set_cons_zero, List.set_cons_succ]
      refine wpAnyH_take (i := 4) (v := ?v5) rfl (by kernel_rfl) (by kernel_rfl) (by kernel_rfl) (fun _ _ _ h => h) (Or.inl ⟨by rfl, ?hy5⟩) (by assumption) ?rest5
      case hy5 => (intro wy hSw; (try dsimp only at hSw); go_simp; (first | done | with_reducible rfl))
      try simp only [Act.put, List.getElem_toArray, List.getElem_cons_zero, List.getElem_cons_succ, List.setIfInBounds_toArray, List.set_cons_zero, List.set_cons_succ]
      refine wpAnyH_take (i := 5) (v := ?v6) rfl (by kernel_rfl) (by kernel_rfl) (by kernel_rfl) (fun _ _ _ h => h) (Or.inl ⟨by rfl, ?hy6⟩) (by assumption) ?rest6
      case hy6 => (intro wy hSw; (try dsimp only at hSw); go_simp; (first | done | with_reducible rfl))
      try simp only [Act.put, List.getElem_toArray, List.getElem_cons_zero, List.getElem_cons_succ, List.setIfInBounds_toArray, List.set_cons_zero, List.set_cons_succ]
      refine wpAnyH_take (i := 6) (v := ?v7) rfl (by kernel_rfl) (by kernel_rfl) (by kernel_rfl) (fun _ _ _ h => h) (Or.inl ⟨by rfl, ?hy7⟩) (by assumption) ?rest7
      case hy7 => (intro wy hSw; (try dsimp only at hSw); go_simp; (first | done | with_reducible rfl))
      try simp only [Act.put, List.getElem_toArray, List.getElem_cons_zero, List.getElem_cons_succ, List.setIfInBounds_toArray, List.set_cons_zero, List.set_cons_succ]
      refine wpAnyH_take (i := 7) (v := ?v8) rfl (by kernel_rfl) (by kernel_rfl) (by kernel_rfl) (fun _ _ _ h => h) (Or.inl ⟨by rfl, ?hy8⟩) (by assumption) ?rest8
      case hy8 => (intro wy hSw; (try dsimp only at hSw); go_simp; (first | done | with_reducible rfl))
      try simp only [Act.put, List.getElem_toArray, List.getElem_cons_zero, List.getElem_cons_succ, List.setIfInBounds_toArray, List.set_cons_zero, List.set_cons_succ]
      refine wpAnyH_take (i := 8) (v := ?v9) rfl (by kernel_rfl) (by kernel_rfl) (by kernel_rfl) (fun _ _ _ h => h) (Or.inl ⟨by rfl, ?hy9⟩) (by assumption) ?rest9
      case hy9 => (intro wy hSw; (try dsimp only at hSw); go_simp; (first | done | with_reducible rfl))
      try simp only [Act.put, List.getElem_toArray, List.getElem_cons_zero, List.getElem_cons_succ, List.setIfInBounds_toArray, List.set_cons_zero, List.set_cons_succ]
      refine wpAnyH_done (by kernel_rfl) ?_ _
      go_wp2
      go_roundw
      case rel => exact ⟨j + 1, by omega, by go_num, n + 1, rfl⟩
      case measure => simp [intOf]; omega
    · have hltI : ¬ (j : Int) < A.length := by omega
      go_wp2
      go_ret
      exact ⟨rfl, n, rfl⟩
set_option maxHeartbeats 4000000 in
/-- Answers that are alike. -/
theorem wres15 {w : World} {va vb : Value} {A : List Rq} (ha : SeesG rqC 6 Rq.nil w va A) (hb : SeesG rqC 6 Rq.nil w vb A) :
    Calls Try.prog 23 #[va, vb] w fun e w' => e = .returned (.bool true) ∧ ∃ n, w' = w.drewN n := by
  obtain ⟨a1, c1, rfl, hc1, hm1, _, hat1⟩ := ha
  obtain ⟨a2, c2, rfl, hc2, hm2, _, hat2⟩ := hb
  unfold maxLen at hm1 hm2
  have HA := keepG hat1
  have HB := keepG hat2
  clear hat1 hat2
  go_enter Try.func23, Try.ntmps23
  go_wp2
  go_loopw [5] (fun i wr => ∃ j : Nat, j ≤ A.length ∧ i = .int .i64 j ∧ ∃ n, wr = w.drewN n) (fun i _ => A.length - (intOf i).toNat)
  case atStart => exact ⟨0, by omega, rfl, 0, rfl⟩
  case round =>
    obtain ⟨j, hj, rfl, n, rfl⟩ := hrel
    by_cases hlt : j < A.length
    · have hltI : (j : Int) < A.length := by omega
      obtain ⟨g1, o1, rfl, _, h1⟩ := HA.out (fun e => by rw [e] at hlt; simp at hlt)
      obtain ⟨g2, o2, rfl, _, h2⟩ := HB.out (fun e => by rw [e] at hlt; simp at hlt)
      obtain ⟨p, HP⟩ : ∃ p, Hid (A.getD j Rq.nil = p) := ⟨_, rfl⟩
      have d0 := h1 j hlt 0 (by omega)
      have d1 := h1 j hlt 1 (by omega)
      have d2 := h1 j hlt 2 (by omega)
      have d3 := h1 j hlt 3 (by omega)
      have d4 := h1 j hlt 4 (by omega)
      have d5 := h1 j hlt 5 (by omega)
      have e0 := h2 j hlt 0 (by omega)
      have e1 := h2 j hlt 1 (by omega)
      have e2 := h2 j hlt 2 (by omega)
      have e3 := h2 j hlt 3 (by omega)
      have e4 := h2 j hlt 4 (by omega)
      have e5 := h2 j hlt 5 (by omega)
      rw [HP.out] at d0 e0 d1 e1 d2 e2 d3 e3 d4 e4 d5 e5
      simp only [List.getElem?_cons_zero, List.getElem?_cons_succ, Nat.add_zero] at d0 e0 d1 e1 d2 e2 d3 e3 d4 e4 d5 e5
      clear h1 h2
      go_wp2
      refine wp_region_held_drew (S := fun w' => w'.cell? ⟨g1, o1 + j * 6, none⟩ = some (.int .i64 p.E) ∧ w'.cell? ⟨g1, o1 + j * 6 + 1, none⟩ = some (.bool p.f) ∧ w'.cell? ⟨g1, o1 + j * 6 + 2, none⟩ = some (.int .u64 p.v) ∧ w'.cell? ⟨g1, o1 + j * 6 + 3, none⟩ = some (.bool p.o) ∧ w'.cell? ⟨g1, o1 + j * 6 + 4, none⟩ = some (.int .u64 p.k) ∧ w'.cell? ⟨g1, o1 + j * 6 + 5, none⟩ = some (.int .u64 p.u) ∧ w'.cell? ⟨g2, o2 + j * 6, none⟩ = some (.int .i64 p.E) ∧ w'.cell? ⟨g2, o2 + j * 6 + 1, none⟩ = some (.bool p.f) ∧ w'.cell? ⟨g2, o2 + j * 6 + 2, none⟩ = some (.int .u64 p.v) ∧ w'.cell? ⟨g2, o2 + j * 6 + 3, none⟩ = some (.bool p.o) ∧ w'.cell? ⟨g2, o2 + j * 6 + 4, none⟩ = some (.int .u64 p.k) ∧ w'.cell? ⟨g2, o2 + j * 6 + 5, none⟩ = some (.int .u64 p.u)) (by kernel_rfl) ⟨d0, d1, d2, d3, d4, d5, e0, e1, e2, e3, e4, e5⟩ (fun hHeld => ?_)
      refine wpAnyH_take (i := 0) (v := ?v10) rfl (by kernel_rfl) (by kernel_rfl) (by kernel_rfl) (fun _ _ _ h => h) (Or.inl ⟨by rfl, ?hy10⟩) (by assumption) ?rest10
      case hy10 => (intro wy hSw; (try dsimp only at hSw); go_simp; (first | done | with_reducible rfl))
      try simp only [Act.put, List.getElem_toArray, List.getElem_cons_zero, List.getElem_cons_succ, List.setIfInBounds_toArray, List.set_cons_zero, List.set_cons_succ]
      refine wpAnyH_take (i := 1) (v := ?v11) rfl (by kernel_rfl) (by kernel_rfl) (by kernel_rfl) (fun _ _ _ h => h) (Or.inl ⟨by rfl, ?hy11⟩) (by assumption) ?rest11
      case hy11 => (intro wy hSw; (try dsimp only at hSw); go_simp; (first | done | with_reducible rfl))
      try simp only [Act.put, List.getElem_toArray, List.getElem_cons_zero, List.getElem_cons_succ, List.setIfInBounds_toArray, List.set_cons_zero, List.set_cons_succ]
      refine wpAnyH_take (i := 2) (v := ?v12) rfl (by kernel_rfl) (by kernel_rfl) (by kernel_rfl) (fun _ _ _ h => h) (Or.inl ⟨by rfl, ?hy12⟩) (by assumption) ?rest12
      case hy12 => (intro wy hSw; (try dsimp only at hSw); go_simp; (first | done | with_reducible rfl))
      try simp only [Act.put, List.getElem_toArray, List.getElem_cons_zero, List.getElem_cons_succ, List.setIfInBounds_toArray, List.set_cons_zero, List.set_cons_succ]
      refine wpAnyH_take (i := 3) (v := ?v13) rfl (by kernel_rfl) (by kernel_rfl) (by kernel_rfl) (fun _ _ _ h => h) (Or.inl ⟨by rfl, ?hy13⟩) (by assumption) ?rest13
      case hy13 => (intro wy hSw; (try dsimp only at hSw); go_simp; (first | done | with_reducible rfl))
      try simp only [Act.put, List.getElem_toArray, List.getElem_cons_zero, List.getElem_cons_succ, List.setIfInBounds_toArray, List.set_cons_zero, List.set_cons_succ]
      refine wpAnyH_take (i := 4) (v := ?v14) rfl (by kernel_rfl) (by kernel_rfl) (by kernel_rfl) (fun _ _ _ h => h) (Or.inl ⟨by rfl, ?hy14⟩) (by assumption) ?rest14
      case hy14 => (intro wy hSw; (try dsimp only at hSw); go_simp; (first | done | with_reducible rfl))
      try simp only [Act.put, List.getElem_toArray, List.getElem_cons_zero, List.getElem_cons_succ, List.setIfInBounds_toArray, List.set_cons_zero, List.set_cons_succ]
      refine wpAnyH_take (i := 5) (v := ?v15) rfl (by kernel_rfl) (by kernel_rfl) (by kernel_rfl) (fun _ _ _ h => h) (Or.inl ⟨by rfl, ?hy15⟩) (by assumption) ?rest15
      case hy15 => (intro wy hSw; (try dsimp only at hSw); go_simp; (first | done | with_reducible rfl))
      try simp only [Act.put, List.getElem_toArray, List.getElem_cons_zero, List.getElem_cons_succ, List.setIfInBounds_toArray, List.set_cons_zero, List.set_cons_succ]
      refine wpAnyH_take (i := 6) (v := ?v16) rfl (by kernel_rfl) (by kernel_rfl) (by kernel_rfl) (fun _ _ _ h => h) (Or.inl ⟨by rfl, ?hy16⟩) (by assumption) ?rest16
      case hy16 => (intro wy hSw; (try dsimp only at hSw); go_simp; (first | done | with_reducible rfl))
      try simp only [Act.put, List.getElem_toArray, List.getElem_cons_zero, List.getElem_cons_succ, List.setIfInBounds_toArray, List.set_cons_zero, List.set_cons_succ]
      refine wpAnyH_take (i := 7) (v := ?v17) rfl (by kernel_rfl) (by kernel_rfl) (by kernel_rfl) (fun _ _ _ h => h) (Or.inl ⟨by rfl, ?hy17⟩) (by assumption) ?rest17
      case hy17 => (intro wy hSw; (try dsimp only at hSw); go_simp; (first | done | with_reducible rfl))
      try simp only [Act.put, List.getElem_toArray, List.getElem_cons_zero, List.getElem_cons_succ, List.setIfInBounds_toArray, List.set_cons_zero, List.set_cons_succ]
      refine wpAnyH_take (i := 8) (v := ?v18) rfl (by kernel_rfl) (by kernel_rfl) (by kernel_rfl) (fun _ _ _ h => h) (Or.inl ⟨by rfl, ?hy18⟩) (by assumption) ?rest18
      case hy18 => (intro wy hSw; (try dsimp only at hSw); go_simp; (first | done | with_reducible rfl))
      try simp only [Act.put, List.getElem_toArray, List.getElem_cons_zero, List.getElem_cons_succ, List.setIfInBounds_toArray, List.set_cons_zero, List.set_cons_succ]
      refine wpAnyH_done (by kernel_rfl) ?_ _
      go_wp2
      go_roundw
      case rel => exact ⟨j + 1, by omega, by go_num, n + 1, rfl⟩
      case measure => simp [intOf]; omega
    · have hltI : ¬ (j : Int) < A.length := by omega
      go_wp2
      go_ret
      exact ⟨rfl, n, rfl⟩
theorem item_cells {H : Type} {enc : TypeId × Value → H} {W : World} {base fuel : Nat} {sp : Nat → Bool} {held : Bool} {cs : List Value} {x : DataW H × List MemPlace}
    (h : DataW.trod enc Try.prog W base sp held fuel 41 cs = some x) : ∃ i : It, cs = itC i ∧ i.wf := by
  obtain ⟨xs, n, rfl, hx, hl, hlen, hf⟩ := DataW.trod_struct Try.underlying41 h
  have l5 : cs.length = 4 := by rw [hl]; kernel_rfl
  have u1 : Try.prog.cellsOf 35 = 1 := by kernel_rfl
  have u2 : Try.prog.cellsOf 3 = 1 := by kernel_rfl
  have u3 : Try.prog.cellsOf 39 = 1 := by kernel_rfl
  match cs, l5, xs, hlen, hf with
  | [c0, c1, c2, c3], _, [x0, x1, x2, x3], _, hf =>
    have h0 : DataW.trod enc Try.prog W base sp held n 3 (([c0, c1, c2, c3].drop 0).take (Try.prog.cellsOf 3)) = some x0 := hf 0 _ rfl
    have h1 : DataW.trod enc Try.prog W base sp held n 39 (([c0, c1, c2, c3].drop 1).take (Try.prog.cellsOf 39)) = some x1 := hf 1 _ rfl
    have h2 : DataW.trod enc Try.prog W base sp held n 35 (([c0, c1, c2, c3].drop 2).take (Try.prog.cellsOf 35)) = some x2 := hf 2 _ rfl
    have h3 : DataW.trod enc Try.prog W base sp held n 35 (([c0, c1, c2, c3].drop 3).take (Try.prog.cellsOf 35)) = some x3 := hf 3 _ rfl
    rw [u2] at h0
    rw [u3] at h1
    rw [u1] at h2 h3
    obtain ⟨a, e0, y0, g0⟩ := DataW.trod_int Try.underlying3 h0
    obtain ⟨b, e1, y1, g1⟩ := DataW.trod_int Try.underlying39 h1
    obtain ⟨c, e2, y2, g2⟩ := DataW.trod_int Try.underlying35 h2
    obtain ⟨d, e3, y3, g3⟩ := DataW.trod_int Try.underlying35 h3
    simp at e0 e1 e2 e3
    subst e0 e1 e2 e3
    refine ⟨⟨a, b, c, d⟩, rfl, ?_⟩
    have := bounds_u64 g2
    show 0 ≤ c ∧ c < 18446744073709551616
    omega
theorem opens_Item {H : Type} {enc : TypeId × Value → H} {W : World} {base : Nat} {v : Value} {d : DataW H} {p : List MemPlace}
    (hok : Value.okWide Try.prog W .any base 25 v) (h : DataW.Trod enc Try.prog W 0 (fun _ => true) true 25 v d p) :
    ∃ xs, SeesG itC 4 It.nil W v xs ∧ (∀ x ∈ xs, It.wf x) ∧ ((d.weights Try.prog 25).all (· ≤ reachBytes) = true → xs.length * 32 ≤ 140737488351232) :=
  opensG It.nil (R := It.wf) Try.underlying25 (by kernel_rfl) (by decide) itC_len (by kernel_rfl) item_cells hok h
theorem open_Def {H : Type} {enc : TypeId × Value → H} {W : World} {base : Nat} {v : Value} {d : DataW H} {p : List MemPlace}
    (hok : Value.okWide Try.prog W .any base 24 v) (h : DataW.Trod enc Try.prog W 0 (fun _ => true) true 24 v d p) : ∃ k c, v = defW k c := by
  obtain ⟨cs, rfl, _⟩ := okWide_struct Try.underlying24 hok
  obtain ⟨fuel, hf⟩ := h
  obtain ⟨xs, n, _, hx, hl, hlen, hf⟩ := DataW.trod_struct Try.underlying24 hf
  have l5 : cs.toList.length = 2 := hl.trans (by kernel_rfl)
  have u2 : Try.prog.cellsOf 3 = 1 := by kernel_rfl
  have u3 : Try.prog.cellsOf 22 = 1 := by kernel_rfl
  obtain ⟨cl⟩ := cs
  simp only [Value.cells] at hf l5
  match cl, l5, xs, hlen, hf with
  | [c0, c1], _, [x0, x1], _, hf =>
    have h0 : DataW.trod enc Try.prog W 0 (fun _ => true) true n 22 (([c0, c1].drop 0).take (Try.prog.cellsOf 22)) = some x0 := hf 0 _ rfl
    have h1 : DataW.trod enc Try.prog W 0 (fun _ => true) true n 3 (([c0, c1].drop 1).take (Try.prog.cellsOf 3)) = some x1 := hf 1 _ rfl
    rw [u3] at h0
    rw [u2] at h1
    obtain ⟨a, e0, y0, g0⟩ := DataW.trod_int Try.underlying22 h0
    obtain ⟨b, e1, y1, g1⟩ := DataW.trod_int Try.underlying3 h1
    simp at e0 e1
    subst e0 e1
    exact ⟨a, b, rfl⟩
end Go.Proofs.Ytinoelooccmmnaa
namespace Go.Proofs.Ytinoelooccmmnaa
open Go.RowKit
set_option linter.unusedVariables false
set_option linter.unusedSimpArgs false
set_option maxRecDepth 100000

/-- A call that lays an answer into its result's box behind a step of an object. -/
theorem res_end (P : World → Ft → Prop) (hk : ∀ {w w' : World} {F G : Ft}, P w F → Chg w w' G → Apt G F → P w' F) {w X w1 : World} {F F' : Ft} {cs : List Value} (hbX : Below w.heap.size w X) (hzX : X.heap.size = w.heap.size + 1) (hF : Lies w F) (Hr : Hp w1 w.heap.size 37 cs) (hl : cs.length = 6) (hP : P w1 F') (hn : Nx X w1 F F') {E x k u : Int} {f o : Bool} {fn : Func} {tmps : Array Value} {pt : Tmp} (hr : fn.results = #[.cell pt 37] := by rfl) (hp : tmps.getD pt undef = .pointer (some ⟨w.heap.size, 0, none⟩) := by rfl) :
    bodyPost Try.prog fn (fun e w' => e = .returned (resG E f x o k u) ∧ ∃ F', P w' F' ∧ Nx w w' F F') .ret ⟨tmps, []⟩ ((((((w1.setCell ⟨w.heap.size, 0, none⟩ (.int .i64 E)).setCell ⟨w.heap.size, 1, none⟩ (.bool f)).setCell ⟨w.heap.size, 2, none⟩ (.int .u64 x)).setCell ⟨w.heap.size, 3, none⟩ (.bool o)).setCell ⟨w.heap.size, 4, none⟩ (.int .u64 k)).setCell ⟨w.heap.size, 5, none⟩ (.int .u64 u)) := by
  obtain ⟨hs, hg⟩ := six_sets (E := E) (f := f) (v := x) (o := o) (k := k) (u := u) Hr hl
  have hc := Chg.of_grown (S := fun k => k = w.heap.size) hg rfl
  have hn0 := (Nx.below (F := F) hbX).trans hn
  have hnot : ¬ F' w.heap.size := fun e => by
    rcases hn.new _ e with g | g
    · have := hF _ g; omega
    · omega
  refine res_ret hr hp hs ⟨rfl, F', hk hP hc (fun k e hf => by subst e; exact hnot hf), ⟨hn0.chg.trans hc (fun k hk e => by omega), hn0.new⟩⟩
/-- The document's operation on a shard. -/
def doD (κ : Bool) (cap : Nat) (s : Lt) (op key val : Int) : Rq × Lt :=
  if κ = true then doT cap s op key val
  else (⟨(doP cap s.D op key val).1.E, (doP cap s.D op key val).1.f, (doP cap s.D op key val).1.v, false, 0, 0⟩, ⟨(doP cap s.D op key val).2, s.kt, s.c⟩)
/-- The document's shard and the plain one. -/
structure InvD (κ : Bool) (cap : Nat) (s : Lt) (t : Sr) : Prop where
  sh : InvSh κ cap t
  perm : t.1.Perm s.D
  lru : κ = true → InvR cap s t.1 ∧ t.2 = recT s.kt
theorem InvD.do {κ : Bool} {cap : Nat} {s : Lt} {t : Sr} (h : InvD κ cap s t) (op key val : Int) : (doSh κ cap t op key val).1 = (doD κ cap s op key val).1 ∧ InvD κ cap (doD κ cap s op key val).2 (doSh κ cap t op key val).2 := by
  have hs := h.sh.do op key val
  cases κ with
  | true =>
    obtain ⟨g1, g2⟩ := h.lru rfl
    obtain ⟨e1, e2, e3, e4⟩ := doA_same (cap := cap) g1.a.srt g1.p op key val
    have hd := g1.do op key val
    revert hs
    unfold doSh doD
    rw [if_pos rfl, if_pos rfl, g2]
    intro hs
    exact ⟨e1, hs, e2, fun _ => ⟨hd, e3⟩⟩
  | false =>
    have hd := do_same (cap := cap) h.sh.srt h.perm op key val
    revert hs
    unfold doSh doD
    rw [if_neg (by decide), if_neg (by decide)]
    intro hs
    refine ⟨?_, hs, hd.2, fun e => by cases e⟩
    simp only
    rw [hd.1]
theorem doD_c (κ : Bool) (cap : Nat) (s : Lt) (op key val : Int) : (doD κ cap s op key val).2.c ≤ s.c + 1 := by
  unfold doD
  cases κ with
  | true => rw [if_pos rfl]; unfold doT; simp only; split <;> omega
  | false => rw [if_neg (by decide)]; exact Nat.le_succ _
/-- The document's book as an object. -/
def Rbo (w : World) (B b cap : Nat) (D : List Pp) (F : Ft) : Prop := ∃ v, Rb w B b cap v D ∧ F = bkS b v
section
variable {w w' : World} {B b cap : Nat} {D : List Pp} {F G : Ft}
theorem Rbo.lies (h : Rbo w B b cap D F) : Lies w F := by
  obtain ⟨v, h1, rfl⟩ := h
  intro k hk
  rcases hk with e | e
  · rw [e]; exact h1.hp.lt
  · exact (h1.row.lt k e).2
theorem Rbo.keeps (h : Rbo w B b cap D F) (hc : Chg w w' G) (ha : Apt G F) : Rbo w' B b cap D F := by
  obtain ⟨v, h1, rfl⟩ := h
  exact ⟨v, h1.chg hc (fun e => ha b e (.inl rfl)) (fun k hk e => ha k e (.inr hk)), rfl⟩
theorem Rbo.other (h : Rbo w B b cap D F) {n : Nat} {t : TypeId} {cs : List Value} (hp : Hp w n t cs) (h2 : t ≠ 85) (h3 : t ≠ 64) : ¬ F n := by
  obtain ⟨v, g, rfl⟩ := h
  rintro (e | e)
  · exact hp_type hp g.hp h2 e
  · exact own_type10 g.row hp (fun e => h3 e.symm) e
theorem Rbo.do_any (op key val : Int) (h : Rbo w B b cap D F) (hl : D.length ≤ 1000) (hB : B ≤ w.heap.size) :
    Calls Try.prog 32 #[.pointer (some ⟨b, 0, none⟩), .int .i64 op, .int .u64 key, .int .u64 val] w fun e w' => e = .returned (resG (doP cap D op key val).1.E (doP cap D op key val).1.f (doP cap D op key val).1.v false 0 0) ∧ ∃ F', Rbo w' B b cap (doP cap D op key val).2 F' ∧ Nx w w' F F' := by
  obtain ⟨v, h1, rfl⟩ := h
  refine (rdo_any op key val h1 hl hB).mono ?_
  rintro e w' ⟨rfl, v', g1, g2, g3⟩
  refine ⟨rfl, _, ⟨v', g1, rfl⟩, g2, fun k hk => ?_⟩
  rcases hk with e | e
  · exact .inl (.inl e)
  · rcases g3 k e with q | q
    · exact .inl (.inr q)
    · exact .inr q
end
theorem Ro.otherC {w : World} {B l cap : Nat} {s : Lt} {F : Ft} (h : Ro w B l cap s F) {n : Nat} {t : TypeId} {cs : List Value} (hp : Hp w n t cs) (h1 : t ≠ 77) (h2 : t ≠ 85) (h3 : t ≠ 64) (h4 : t ≠ 35) (h5 : t ≠ 3) : ¬ F n := by
  obtain ⟨b, vd, vk, vw, g, rfl⟩ := h
  rintro (e | e | e | e | e)
  · exact hp_type hp g.hp h1 e
  · exact hp_type hp g.bk.hp h2 e
  · exact own_type10 g.bk.row hp (fun e => h3 e.symm) e
  · exact own_type10 g.ks hp (fun e => h4 e.symm) e
  · exact own_type10 g.ws hp (fun e => h5 e.symm) e
/-- The document's shard, at a block. -/
def Ds (w : World) (B p : Nat) (κ : Bool) (cap : Nat) (s : Lt) (F : Ft) : Prop :=
  (κ = false ∧ ∃ b G, Hp w p 73 [.pointer (some ⟨b, 0, none⟩), .pointer none] ∧ Rbo w B b cap s.D G ∧ F = fun k => k = p ∨ G k) ∨
  (κ = true ∧ ∃ l G, Hp w p 73 [.pointer none, .pointer (some ⟨l, 0, none⟩)] ∧ Ro w B l cap s G ∧ F = fun k => k = p ∨ G k)
section
variable {w w' : World} {B p cap : Nat} {κ : Bool} {s : Lt} {t : Sr} {F G : Ft}
theorem Ds.lies (h : Ds w B p κ cap s F) : Lies w F := by
  rcases h with ⟨_, b, G, hp, hb, rfl⟩ | ⟨_, l, G, hp, hb, rfl⟩
  · intro k hk
    rcases hk with e | e
    · rw [e]; exact hp.lt
    · exact hb.lies k e
  · intro k hk
    rcases hk with e | e
    · rw [e]; exact hp.lt
    · exact hb.lies k e
theorem Ds.keeps (h : Ds w B p κ cap s F) (hc : Chg w w' G) (ha : Apt G F) : Ds w' B p κ cap s F := by
  rcases h with ⟨e, b, H, hp, hb, rfl⟩ | ⟨e, l, H, hp, hb, rfl⟩
  · exact .inl ⟨e, b, H, hp.chg hc (fun g => ha p g (.inl rfl)), hb.keeps hc (fun k g1 g2 => ha k g1 (.inr g2)), rfl⟩
  · exact .inr ⟨e, l, H, hp.chg hc (fun g => ha p g (.inl rfl)), hb.keeps hc (fun k g1 g2 => ha k g1 (.inr g2)), rfl⟩
theorem Ds.below (h : Ds w B p κ cap s F) (hb : Below w.heap.size w w') : Ds w' B p κ cap s F := h.keeps (Chg.of_below (S := fun _ => False) hb) (fun _ e => e.elim)
set_option maxHeartbeats 4000000 in
theorem Ds.do_any (op key val : Int) (h : Ds w B p κ cap s F) (hi : InvD κ cap s t) (hc16 : cap ≤ 16) (hc : s.c ≤ 4000) (hB : B ≤ w.heap.size) :
    Calls Try.prog 21 #[.pointer (some ⟨p, 0, none⟩), .int .i64 op, .int .u64 key, .int .u64 val] w fun e w' => e = .returned (resG (doD κ cap s op key val).1.E (doD κ cap s op key val).1.f (doD κ cap s op key val).1.v (doD κ cap s op key val).1.o (doD κ cap s op key val).1.k (doD κ cap s op key val).1.u) ∧ ∃ F', Ds w' B p κ cap (doD κ cap s op key val).2 F' ∧ Nx w w' F F' := by
  obtain ⟨X, HX, HrX, hbX, hzX⟩ := boxRG w
  have hpl := hi.perm.length_eq
  have hln := hi.sh.len
  have HF := keepG h.lies
  rcases h with ⟨rfl, b, G, hp, hb, rfl⟩ | ⟨rfl, l, G, hp, hb, rfl⟩
  · obtain ⟨Q, HQ⟩ : ∃ Q, Hid (doP cap s.D op key val = Q) := ⟨_, rfl⟩
    have hd : doD false cap s op key val = (⟨Q.1.E, Q.1.f, Q.1.v, false, 0, 0⟩, ⟨Q.2, s.kt, s.c⟩) := by unfold doD; rw [if_neg (by decide), HQ.out]
    rw [hd]
    obtain ⟨⟨E, f, x⟩, D'⟩ := Q
    simp only
    have hlt := hp.lt
    have c0 := hp.cell (j := 0) rfl
    have c1 := hp.cell (j := 1) rfl
    have HO := keepG (hb.keeps (Chg.of_below (S := fun _ => False) hbX) (fun _ e => e.elim))
    have HP := keepG (hp.below hbX hlt)
    clear hb hp
    go_enter Try.func21, Try.ntmps21
    go_wp2_with (go_at_call 32; rw [HX.out]; go_must (refine (HO.out.do_any op key val (by omega) (by omega)).mono ?_); rintro e w1 ⟨rfl, G1, hb1, hn1⟩; go_must (rw [HQ.out] at hb1 ⊢; have HB1 := keepG hb1; have HN1 := keepG hn1; have Hr1 := keepG (HrX.out.chg hn1.chg (HO.out.other HrX.out (by decide) (by decide))); have HP1 := keepG (HP.out.chg hn1.chg (HO.out.other HP.out (by decide) (by decide))); have x0 := Hr1.out.cell (j := 0) rfl; have f0 := Hr1.out.frozen 0; have x1 := Hr1.out.cell (j := 1) rfl; have f1 := Hr1.out.frozen 1; have x2 := Hr1.out.cell (j := 2) rfl; have f2 := Hr1.out.frozen 2; have x3 := Hr1.out.cell (j := 3) rfl; have f3 := Hr1.out.frozen 3; have x4 := Hr1.out.cell (j := 4) rfl; have f4 := Hr1.out.frozen 4; have x5 := Hr1.out.cell (j := 5) rfl; have f5 := Hr1.out.frozen 5; clear hb1 hn1))
    exact res_end (fun w' F' => Ds w' B p false cap ⟨D', s.kt, s.c⟩ F') (fun h hc ha => h.keeps hc ha) hbX hzX HF.out Hr1.out rfl (.inl ⟨rfl, b, G1, HP1.out, HB1.out, rfl⟩) ⟨HN1.out.chg.mono (fun k e => .inr e), fun k hk => by
      rcases hk with e | e
      · exact .inl (.inl e)
      · rcases HN1.out.new k e with g | g
        · exact .inl (.inr g)
        · exact .inr g⟩
  · obtain ⟨Q, HQ⟩ : ∃ Q, Hid (doT cap s op key val = Q) := ⟨_, rfl⟩
    have hd : doD true cap s op key val = Q := by unfold doD; rw [if_pos rfl, HQ.out]
    rw [hd]
    obtain ⟨⟨E, f, x, o, k, u⟩, s'⟩ := Q
    simp only
    have hlt := hp.lt
    have c0 := hp.cell (j := 0) rfl
    have c1 := hp.cell (j := 1) rfl
    have HO := keepG (hb.keeps (Chg.of_below (S := fun _ => False) hbX) (fun _ e => e.elim))
    have HP := keepG (hp.below hbX hlt)
    have HIR := keepG (hi.lru rfl).1
    clear hb hp
    go_enter Try.func21, Try.ntmps21
    go_wp2_with (go_at_call 31; rw [HX.out]; go_must (refine (HO.out.do_any op key val HIR.out hc16 hc (by omega)).mono ?_); rintro e w1 ⟨rfl, G1, hb1, hn1⟩; go_must (rw [HQ.out] at hb1 ⊢; have HB1 := keepG hb1; have HN1 := keepG hn1; have Hr1 := keepG (HrX.out.chg hn1.chg (HO.out.otherC HrX.out (by decide) (by decide) (by decide) (by decide) (by decide))); have HP1 := keepG (HP.out.chg hn1.chg (HO.out.otherC HP.out (by decide) (by decide) (by decide) (by decide) (by decide))); have x0 := Hr1.out.cell (j := 0) rfl; have f0 := Hr1.out.frozen 0; have x1 := Hr1.out.cell (j := 1) rfl; have f1 := Hr1.out.frozen 1; have x2 := Hr1.out.cell (j := 2) rfl; have f2 := Hr1.out.frozen 2; have x3 := Hr1.out.cell (j := 3) rfl; have f3 := Hr1.out.frozen 3; have x4 := Hr1.out.cell (j := 4) rfl; have f4 := Hr1.out.frozen 4; have x5 := Hr1.out.cell (j := 5) rfl; have f5 := Hr1.out.frozen 5; clear hb1 hn1))
    exact res_end (fun w' F' => Ds w' B p true cap s' F') (fun h hc ha => h.keeps hc ha) hbX hzX HF.out Hr1.out rfl (.inr ⟨rfl, l, G1, HP1.out, HB1.out, rfl⟩) ⟨HN1.out.chg.mono (fun k e => .inr e), fun k hk => by
      rcases hk with e | e
      · exact .inl (.inl e)
      · rcases HN1.out.new k e with g | g
        · exact .inl (.inr g)
        · exact .inr g⟩
theorem Ds.pairs (h : Ds w B p κ cap s F) (hi : InvD κ cap s t) (hc16 : cap ≤ 16) :
    Calls Try.prog 18 #[.pointer (some ⟨p, 0, none⟩)] w fun e w' => ∃ u, e = .returned u ∧ w'.ownsRow w.heap.size 64 2 u t.1.length (flatG ppC t.1) ∧ Below w.heap.size w w' := by
  have hpl := hi.perm.length_eq
  have hln := hi.sh.len
  rcases h with ⟨rfl, b, G, hp, ⟨v, hb, rfl⟩, rfl⟩ | ⟨rfl, l, G, hp, hb, rfl⟩
  · have c0 := hp.cell (j := 0) rfl
    have c1 := hp.cell (j := 1) rfl
    go_enter Try.func18, Try.ntmps18
    go_wp2_with (go_at_call 26; go_must (refine (rpairs_any hb (by omega) hi.perm hi.sh.srt).mono ?_); rintro e w1 ⟨u, rfl, ho, hb1⟩)
    go_ret
    exact ⟨_, rfl, ho, hb1⟩
  · have c0 := hp.cell (j := 0) rfl
    have c1 := hp.cell (j := 1) rfl
    obtain ⟨bb, aa, cc, e0, e1, hC⟩ := hb.book (hi.lru rfl).1 hc16
    go_enter Try.func18, Try.ntmps18
    go_wp2_with (go_at_call 26; go_must (refine hC.mono ?_); rintro e w1 ⟨u, rfl, ho, hb1⟩)
    go_ret
    exact ⟨_, rfl, ho, hb1⟩
end
end Go.Proofs.Ytinoelooccmmnaa
namespace Go.Proofs.Ytinoelooccmmnaa
open Go.RowKit
set_option linter.unusedVariables false
set_option linter.unusedSimpArgs false
set_option maxRecDepth 100000

def Lt.nil : Lt := ⟨[], [], 0⟩
def kindI (κ : Bool) : Int := if κ = true then 1 else 0
abbrev defV (k c : Int) : Value := .agg #[.int .i64 k, .int .i64 c]
theorem Ds.other {w : World} {B p cap : Nat} {κ : Bool} {s : Lt} {F : Ft} (h : Ds w B p κ cap s F) {n : Nat} {t : TypeId} {cs : List Value} (hp : Hp w n t cs) (h0 : t ≠ 73) (h1 : t ≠ 77) (h2 : t ≠ 85) (h3 : t ≠ 64) (h4 : t ≠ 35) (h5 : t ≠ 3) : ¬ F n := by
  rcases h with ⟨rfl, b, G, hq, hb, rfl⟩ | ⟨rfl, l, G, hq, hb, rfl⟩
  · rintro (e | e)
    · exact hp_type hp hq h0 e
    · exact hb.other hp h2 h3 e
  · rintro (e | e)
    · exact hp_type hp hq h0 e
    · exact hb.otherC hp h1 h2 h3 h4 h5 e
theorem dmake_book (n : Nat) (h1 : 1 ≤ n) (h2 : n ≤ 16) (w : World) : Calls Try.prog 20 #[defV 0 n] w fun e w' => ∃ p F, e = .returned (.tuple #[.pointer (some ⟨p, 0, none⟩), .int .i64 0]) ∧ Ds w' w.heap.size p false n Lt.nil F ∧ Since w F ∧ Below w.heap.size w w' := by
  obtain ⟨X, HX, hbX, hpX⟩ : ∃ X, Hid (w.alloc (.cells #[.int .i64 0, .int .i64 n] 24) = X) ∧ Below w.heap.size w X ∧ Hp X w.heap.size 24 [.int .i64 0, .int .i64 n] := ⟨_, rfl, below_allocG _ _, Hp.new w [.int .i64 0, .int .i64 n] _⟩
  have hzX := hbX.size
  clear hpX
  go_enter Try.func20, Try.ntmps20
  go_wp2_with (go_at_call 29; rw [HX.out]; go_must (refine (rnew_ok n h1 h2 X).mono ?_); rintro e w1 ⟨rfl, hp1, hb1, hz1⟩; go_must (have HP1 := keepG hp1; have HZ1 := keepG hz1; clear hp1 hz1))
  go_ret2
  have hz := HZ1.out
  refine ⟨w1.heap.size, _, rfl, .inl ⟨rfl, X.heap.size, _, Hp.new w1 _ _, ⟨.slice none 0 0, ⟨HP1.out.alloc _, World.ownsRow_nil _ _ _ _⟩, rfl⟩, rfl⟩, fun k hk => ?_, (hbX.trans (hb1.mono hzX)).alloc (by omega) _⟩
  rcases hk with e | e | e
  · omega
  · omega
  · cases e
theorem dmake_lru (n : Nat) (h1 : 1 ≤ n) (h2 : n ≤ 16) (w : World) : Calls Try.prog 20 #[defV 1 n] w fun e w' => ∃ p F, e = .returned (.tuple #[.pointer (some ⟨p, 0, none⟩), .int .i64 0]) ∧ Ds w' w.heap.size p true n Lt.nil F ∧ Since w F ∧ Below w.heap.size w w' := by
  obtain ⟨X, HX, hbX, hpX⟩ : ∃ X, Hid (w.alloc (.cells #[.int .i64 1, .int .i64 n] 24) = X) ∧ Below w.heap.size w X ∧ Hp X w.heap.size 24 [.int .i64 1, .int .i64 n] := ⟨_, rfl, below_allocG _ _, Hp.new w [.int .i64 1, .int .i64 n] _⟩
  have hzX := hbX.size
  clear hpX
  go_enter Try.func20, Try.ntmps20
  go_wp2_with (go_at_call 30; rw [HX.out]; go_must (refine (rlnew_ok n h1 h2 X).mono ?_); rintro e w1 ⟨l, b, rfl, hl1, hb1', hR1, hb1⟩; go_must (have HR1 := keepG hR1; clear hR1))
  go_ret2
  have hz1 := hb1.size
  have hR : Rl w1 w.heap.size l b n (.slice none 0 0) (.slice none 0 0) (.slice none 0 0) [] [] 0 := ⟨HR1.out.hp, ⟨HR1.out.bk.hp, World.ownsRow_nil _ _ _ _⟩, World.ownsRow_nil _ _ _ _, World.ownsRow_nil _ _ _ _⟩
  refine ⟨w1.heap.size, _, rfl, .inr ⟨rfl, l, _, Hp.new w1 _ _, ⟨b, _, _, _, hR.below (below_allocG _ _), rfl⟩, rfl⟩, fun k hk => ?_, (hbX.trans (hb1.mono hzX)).alloc (by omega) _⟩
  rcases hk with e | e | e | e | e | e
  · omega
  · omega
  · omega
  · cases e
  · cases e
  · cases e
theorem dmake_ok (κ : Bool) (n : Nat) (h1 : 1 ≤ n) (h2 : n ≤ 16) (w : World) : Calls Try.prog 20 #[defV (kindI κ) n] w fun e w' => ∃ p F, e = .returned (.tuple #[.pointer (some ⟨p, 0, none⟩), .int .i64 0]) ∧ Ds w' w.heap.size p κ n Lt.nil F ∧ Since w F ∧ Below w.heap.size w w' := by
  cases κ with
  | true => exact dmake_lru n h1 h2 w
  | false => exact dmake_book n h1 h2 w
/-- Kinds and caps that are refused. -/
def defNo (k c : Int) : Prop := (k ≠ 0 ∧ k ≠ 1) ∨ c < 1 ∨ 16 < c
theorem dmake_no (k c : Int) (h : defNo k c) (w : World) : Calls Try.prog 20 #[defV k c] w fun e w' => e = .returned (.tuple #[.pointer none, .int .i64 2]) ∧ Below w.heap.size w w' := by
  obtain ⟨X, HX, hbX⟩ : ∃ X, Hid (w.alloc (.cells #[.int .i64 k, .int .i64 c] 24) = X) ∧ Below w.heap.size w X := ⟨_, rfl, below_allocG _ _⟩
  by_cases h0 : k = 0
  · subst h0
    have hc : c < 1 ∨ 16 < c := by rcases h with g | g; exact absurd rfl g.1; exact g
    go_enter Try.func20, Try.ntmps20
    go_wp2_with (go_at_call 29; rw [HX.out]; go_must (refine (rnew_no c hc X).mono ?_); rintro e w1 ⟨rfl, rfl⟩)
    go_ret2
    exact ⟨rfl, hbX⟩
  · by_cases h1 : k = 1
    · subst h1
      have hc : c < 1 ∨ 16 < c := by rcases h with g | g; exact absurd rfl g.2; exact g
      go_enter Try.func20, Try.ntmps20
      go_wp2_with (go_at_call 30; rw [HX.out]; go_must (refine (rlnew_no c hc X).mono ?_); rintro e w1 ⟨rfl, rfl⟩)
      go_ret2
      exact ⟨rfl, hbX⟩
    · have b0 : (k == 0) = false := by simpa using h0
      have b1 : (k == 1) = false := by simpa using h1
      clear h h0 h1
      go_enter Try.func20, Try.ntmps20
      go_wp2
      go_ret2
      exact ⟨rfl, below_allocG _ _⟩
/-- A pointer to a shard. -/
abbrev ptC (p : Nat) : List Value := [.pointer (some ⟨p, 0, none⟩)]
theorem ptC_len (p : Nat) : (ptC p).length = 1 := rfl
theorem ptC_one (p : Nat) : ∀ u ∈ ptC p, u.oneCell' = true := by intro u hu; simp at hu; subst hu; rfl
theorem infoDs : (Try.prog.info? 49).map (fun i => (i.zero, i.size, i.bytes)) = some (some (.pointer none), 1, 8) := by kernel_rfl
/-- The document's map, at a block. -/
structure Dm (w : World) (B r cap : Nat) (κ : Bool) (rv : Value) (ps : List Nat) (st : List Lt) (F : Nat → Ft) : Prop where
  hp : Hp w r 52 [rv]
  row : w.ownsRow B 49 1 rv ps.length (flatG ptC ps)
  len : st.length = ps.length
  fam : Fam (fun w i G => Ds w B (ps.getD i 0) κ cap (st.getD i Lt.nil) G) w ps.length F
def footM (r : Nat) (rv : Value) (n : Nat) (F : Nat → Ft) : Ft := fun k => k = r ∨ rv.ownBlock = some k ∨ unF n F k
section
variable {w w' : World} {B r cap : Nat} {κ : Bool} {rv : Value} {ps : List Nat} {st : List Lt} {F : Nat → Ft}
theorem Dm.below (h : Dm w B r cap κ rv ps st F) (hb : Below w.heap.size w w') : Dm w' B r cap κ rv ps st F :=
  ⟨h.hp.below hb h.hp.lt, own_below h.row hb (Nat.le_refl _), h.len, h.fam.keeps (Chg.of_below (S := fun _ => False) hb) (fun j hj g => g.below hb)⟩
theorem Dm.lies (h : Dm w B r cap κ rv ps st F) : Lies w (footM r rv ps.length F) := by
  intro k hk
  rcases hk with e | e | ⟨i, hi, e⟩
  · rw [e]; exact h.hp.lt
  · exact (h.row.lt k e).2
  · exact h.fam.li i hi k e
theorem Dm.chg {G : Ft} (h : Dm w B r cap κ rv ps st F) (hc : Chg w w' G) (ha : Apt G (footM r rv ps.length F)) : Dm w' B r cap κ rv ps st F :=
  ⟨h.hp.chg hc (fun e => ha r e (.inl rfl)), own_chg h.row hc (fun k hk e => ha k e (.inr (.inl hk))), h.len, h.fam.keeps hc (fun j hj g => g.keeps hc (fun k e1 e2 => ha k e1 (.inr (.inr ⟨j, hj, e2⟩))))⟩
/-- A step of one shard. -/
theorem Dm.step (h : Dm w B r cap κ rv ps st F) {i : Nat} (hi : i < ps.length) {s' : Lt} {G : Ft} (hs : Ds w' B (ps.getD i 0) κ cap s' G) (hn : Nx w w' (F i) G) : Dm w' B r cap κ rv ps (st.set i s') (upd F i G) ∧ Nx w w' (footM r rv ps.length F) (footM r rv ps.length (upd F i G)) := by
  have hob := h.fam.ob i hi
  have n1 : ¬ F i r := hob.other h.hp (by decide) (by decide) (by decide) (by decide) (by decide) (by decide)
  have n2 : ∀ k, rv.ownBlock = some k → ¬ F i k := fun k hk => by
    obtain ⟨cs, hq⟩ := own_hpC h.row hk
    exact hob.other hq (by decide) (by decide) (by decide) (by decide) (by decide) (by decide)
  have hf := Nx.fam (n := ps.length) hi hn
  refine ⟨⟨h.hp.chg hn.chg n1, own_chg h.row hn.chg n2, by rw [List.length_set]; exact h.len, h.fam.step hi hn hs.lies ?_ (fun j hj hne g ha => ?_)⟩, hn.chg.mono (fun k e => .inr (.inr ⟨i, hi, e⟩)), fun k hk => ?_⟩
  · show Ds w' B (ps.getD i 0) κ cap ((st.set i s').getD i Lt.nil) G
    rw [getD_set_same (by rw [h.len]; exact hi)]
    exact hs
  · show Ds w' B (ps.getD j 0) κ cap ((st.set i s').getD j Lt.nil) (F j)
    rw [getD_set_other (fun e => hne e.symm)]
    exact g.keeps hn.chg ha
  · rcases hk with e | e | e
    · exact .inl (.inl e)
    · exact .inl (.inr (.inl e))
    · rcases hf.new k e with g | g
      · exact .inl (.inr (.inr g))
      · exact .inr g
end
end Go.Proofs.Ytinoelooccmmnaa
namespace Go.Proofs.Ytinoelooccmmnaa
open Go.RowKit
set_option linter.unusedVariables false
set_option linter.unusedSimpArgs false
set_option maxRecDepth 100000

/-- The document's map as an object. -/
def Dmo (w : World) (B r n cap : Nat) (κ : Bool) (st : List Lt) (G : Ft) : Prop := ∃ rv ps F, Dm w B r cap κ rv ps st F ∧ ps.length = n ∧ G = footM r rv ps.length F
/-- The document's map and the plain one. -/
structure InvDm (κ : Bool) (cap n c : Nat) (st : List Lt) (ts : List Sr) : Prop where
  len : ts.length = n
  sh : ∀ i, i < n → InvD κ cap (st.getD i Lt.nil) (ts.getD i Sr.nil)
  clk : ∀ i, i < n → (st.getD i Lt.nil).c ≤ c
section
variable {w w' : World} {B r n cap : Nat} {κ : Bool} {st : List Lt} {G H : Ft}
theorem Dmo.lies (h : Dmo w B r n cap κ st G) : Lies w G := by
  obtain ⟨rv, ps, F, h1, _, rfl⟩ := h
  exact h1.lies
theorem Dmo.keeps (h : Dmo w B r n cap κ st G) (hc : Chg w w' H) (ha : Apt H G) : Dmo w' B r n cap κ st G := by
  obtain ⟨rv, ps, F, h1, h2, rfl⟩ := h
  exact ⟨rv, ps, F, h1.chg hc ha, h2, rfl⟩
theorem Dmo.below (h : Dmo w B r n cap κ st G) (hb : Below w.heap.size w w') : Dmo w' B r n cap κ st G := by
  obtain ⟨rv, ps, F, h1, h2, rfl⟩ := h
  exact ⟨rv, ps, F, h1.below hb, h2, rfl⟩
set_option maxHeartbeats 8000000 in
theorem Dmo.do_any {c : Nat} {ts : List Sr} (op key val : Int) (h : Dmo w B r n cap κ st G) (hv : InvDm κ cap n c st ts) (hn : 1 ≤ n) (hn4 : n ≤ 4) (hk : 0 ≤ key ∧ key < 18446744073709551616) (hc16 : cap ≤ 16) (hc : c ≤ 4000) (hB : B ≤ w.heap.size) {i : Nat} (HI : Hid (atM key n = i)) {q : Rq} {s' : Lt} (HQ : Hid (doD κ cap (st.getD i Lt.nil) op key val = (q, s'))) :
    Calls Try.prog 12 #[.pointer (some ⟨r, 0, none⟩), .int .i64 op, .int .u64 key, .int .u64 val] w fun e w' => e = .returned (resG q.E q.f q.v q.o q.k q.u) ∧ ∃ G', Dmo w' B r n cap κ (st.set i s') G' ∧ Nx w w' G G' := by
  have hlies := h.lies
  obtain ⟨rv, ps, F, h1, hpn, rfl⟩ := h
  have hil : i < ps.length := by rw [← HI.out, hpn]; exact atM_lt hn hk.1
  have hin : i < n := by omega
  obtain ⟨g, cc, rfl, _, hg, hgc, hcm, hat⟩ := own_atG ptC_len 0 h1.row (by omega)
  have d0 := (hat i hil 0 (by omega)).1
  simp only [List.getElem?_cons_zero, Nat.add_zero, Nat.mul_one] at d0
  have c0 := h1.hp.cell (j := 0) rfl
  have hrl := h1.hp.lt
  clear hat
  obtain ⟨p, HP⟩ : ∃ p, Hid (ps.getD i 0 = p) := ⟨_, rfl⟩
  rw [HP.out] at d0
  have hof : ofL key (ps.length : Int) = (i : Int) := by rw [hpn, atM_of hn, HI.out]
  have HOF := keepG hof
  clear hof
  obtain ⟨X, HX, HrX, hbX, hzX⟩ := boxRG w
  obtain ⟨Y, HY, hbY, HrY, hzY⟩ : ∃ Y, Hid (X.drew = Y) ∧ Below w.heap.size w Y ∧ Hid (Hp Y w.heap.size 37 (resCG 0 false 0 false 0 0)) ∧ Y.heap.size = w.heap.size + 1 := ⟨_, rfl, below_drG hbX, HrX.out.drew, hzX⟩
  have HDY := keepG (h1.below hbY)
  have n1 : ¬ w.heap.size = r := by omega
  have n2 : ¬ w.heap.size = g := by omega
  have HLen := keepG hpn
  have hlI : (i : Int) < ps.length := by omega
  have hlI0 : ¬ (i : Int) < 0 := by omega
  have hps4 : ps.length ≤ 4 := by omega
  have HS : Hid (∀ wx, Below w.heap.size w wx → wx.cell? ⟨r, 0, none⟩ = some (.slice (some ⟨g, 0, none⟩) ps.length cc) ∧ wx.cell? ⟨g, i, none⟩ = some (.pointer (some ⟨p, 0, none⟩))) := fun wx hb => ⟨(hb.cell (p := ⟨r, 0, none⟩) hrl).trans c0, (hb.cell (p := ⟨g, i, none⟩) hg).trans d0⟩
  have HH1 := keepG h1
  clear h1 c0 d0 hpn
  go_enter Try.func12, Try.ntmps12
  go_wp2
  rw [HX.out]
  refine wp_region_held_drew (S := fun w' => w'.cell? ⟨r, 0, none⟩ = some (.slice (some ⟨g, 0, none⟩) ps.length cc) ∧ w'.cell? ⟨g, i, none⟩ = some (.pointer (some ⟨p, 0, none⟩))) (by kernel_rfl) (HS.out _ (below_drG hbX)) (fun hHeld => ?_)
  rw [HY.out] at hHeld ⊢
  refine wpAnyH_take (i := 0) (v := ?v1) rfl (by kernel_rfl) (by kernel_rfl) (by kernel_rfl) (fun _ _ _ h => h) (Or.inl ⟨by rfl, ?hy1⟩) (by assumption) ?rest1
  case hy1 => (intro wy hSw; (try dsimp only at hSw); go_simp; (first | done | with_reducible rfl))
  try simp only [Act.put, List.getElem_toArray, List.getElem_cons_zero, List.getElem_cons_succ, List.setIfInBounds_toArray, List.set_cons_zero, List.set_cons_succ]
  refine wpAnyH_take (i := 1) (v := ?v2) rfl (by kernel_rfl) (by kernel_rfl) (by kernel_rfl) (fun _ _ _ h => h) (Or.inl ⟨by rfl, ?hy2⟩) (by assumption) ?rest2
  case hy2 => (intro wy hSw; (try dsimp only at hSw); go_simp; (first | done | with_reducible rfl))
  try simp only [Act.put, List.getElem_toArray, List.getElem_cons_zero, List.getElem_cons_succ, List.setIfInBounds_toArray, List.set_cons_zero, List.set_cons_succ]
  refine wpAnyH_take (i := 2) (v := ?v3) rfl (by kernel_rfl) (by kernel_rfl) (by kernel_rfl) (fun _ _ _ h => h) (Or.inl ⟨by rfl, ?hy3⟩) (by assumption) ?rest3
  case hy3 => (intro wy hSw; (try dsimp only at hSw); go_simp; (first | done | with_reducible rfl))
  try simp only [Act.put, List.getElem_toArray, List.getElem_cons_zero, List.getElem_cons_succ, List.setIfInBounds_toArray, List.set_cons_zero, List.set_cons_succ]
  refine wpAnyH_take (i := 3) (v := ?v4) rfl (by kernel_rfl) (by kernel_rfl) (by kernel_rfl) (fun _ _ _ h => h) (Or.inl ⟨by rfl, ?hy4⟩) (by assumption) ?rest4
  case hy4 => (intro wy hSw; (try dsimp only at hSw); go_simp; (first | done | with_reducible rfl))
  try simp only [Act.put, List.getElem_toArray, List.getElem_cons_zero, List.getElem_cons_succ, List.setIfInBounds_toArray, List.set_cons_zero, List.set_cons_succ]
  refine wpAnyH_take (i := 4) (v := ?v5) rfl (by kernel_rfl) (by kernel_rfl) (by kernel_rfl) (fun _ _ _ h => h) (Or.inl ⟨by rfl, ?hy5⟩) (by assumption) ?rest5
  case hy5 => (intro wy hSw; (try dsimp only at hSw); go_simp; (first | done | with_reducible rfl))
  try simp only [Act.put, List.getElem_toArray, List.getElem_cons_zero, List.getElem_cons_succ, List.setIfInBounds_toArray, List.set_cons_zero, List.set_cons_succ]
  refine wpAnyH_take (i := 5) (v := ?v6) rfl (by kernel_rfl) (by kernel_rfl) (by kernel_rfl) (fun _ _ _ h => h) (Or.inl ⟨by rfl, ?hy6⟩) (by assumption) ?rest6
  case hy6 => (intro wy hSw; (try dsimp only at hSw); go_simp; (first | done | with_reducible rfl))
  try simp only [Act.put, List.getElem_toArray, List.getElem_cons_zero, List.getElem_cons_succ, List.setIfInBounds_toArray, List.set_cons_zero, List.set_cons_succ]
  refine wpAnyH_take (i := 6) (v := ?v7) rfl (by kernel_rfl) (by kernel_rfl) (by kernel_rfl) (fun _ _ _ h => h) (Or.inl ⟨by rfl, ?hy7⟩) (by assumption) ?rest7
  case hy7 => (intro wy hSw; (try dsimp only at hSw); go_simp; (first | done | with_reducible rfl))
  try simp only [Act.put, List.getElem_toArray, List.getElem_cons_zero, List.getElem_cons_succ, List.setIfInBounds_toArray, List.set_cons_zero, List.set_cons_succ]
  refine wpAnyH_take (i := 7) (v := ?v8) rfl (by kernel_rfl) (by kernel_rfl) (by kernel_rfl) (fun _ _ _ h => h) (Or.inl ⟨by rfl, ?hy8⟩) (by assumption) ?rest8
  case hy8 => (intro wy hSw; (try dsimp only at hSw); go_simp; (first | done | with_reducible rfl))
  try simp only [Act.put, List.getElem_toArray, List.getElem_cons_zero, List.getElem_cons_succ, List.setIfInBounds_toArray, List.set_cons_zero, List.set_cons_succ]
  refine wpAnyH_take (i := 8) (v := ?v9) rfl (by kernel_rfl) (by kernel_rfl) (by kernel_rfl) (fun _ _ _ h => h) (Or.inl ⟨by rfl, ?hy9⟩) (by assumption) ?rest9
  case hy9 => (intro wy hSw; (try dsimp only at hSw); go_simp; (first | done | with_reducible rfl))
  try simp only [Act.put, List.getElem_toArray, List.getElem_cons_zero, List.getElem_cons_succ, List.setIfInBounds_toArray, List.set_cons_zero, List.set_cons_succ]
  refine wpAnyH_take (i := 9) (v := ?v10) rfl (by kernel_rfl) (by kernel_rfl) (by kernel_rfl) (fun _ _ _ h => h) (Or.inl ⟨by rfl, ?hy10⟩) (by assumption) ?rest10
  case hy10 => (intro wy hSw; (try dsimp only at hSw); go_simp; (first | done | with_reducible rfl))
  try simp only [Act.put, List.getElem_toArray, List.getElem_cons_zero, List.getElem_cons_succ, List.setIfInBounds_toArray, List.set_cons_zero, List.set_cons_succ]
  refine wpAnyH_take (i := 13) (v := ?v11) rfl (by kernel_rfl) (by kernel_rfl) (by kernel_rfl) (fun _ _ _ h => h) (Or.inl ⟨by rfl, ?hy11⟩) (by assumption) ?rest11
  case hy11 => (intro wy hSw; (try dsimp only at hSw); go_simp; (first | done | with_reducible rfl))
  try simp only [Act.put, List.getElem_toArray, List.getElem_cons_zero, List.getElem_cons_succ, List.setIfInBounds_toArray, List.set_cons_zero, List.set_cons_succ]
  refine wpAnyH_take (i := 14) (v := ?v12) rfl (by kernel_rfl) (by kernel_rfl) (by kernel_rfl) (fun _ _ _ h => h) (Or.inl ⟨by rfl, ?hy12⟩) (by assumption) ?rest12
  case hy12 => (intro wy hSw; (try dsimp only at hSw); go_simp; (first | done | with_reducible rfl))
  try simp only [Act.put, List.getElem_toArray, List.getElem_cons_zero, List.getElem_cons_succ, List.setIfInBounds_toArray, List.set_cons_zero, List.set_cons_succ]
  refine wpAnyH_take (i := 15) (v := ?v13) rfl (by kernel_rfl) (by kernel_rfl) (by kernel_rfl) (fun _ _ _ h => h) (Or.inl ⟨by rfl, ?hy13⟩) (by assumption) ?rest13
  case hy13 => (intro wy hSw; (try dsimp only at hSw); go_simp; (first | done | with_reducible rfl))
  try simp only [Act.put, List.getElem_toArray, List.getElem_cons_zero, List.getElem_cons_succ, List.setIfInBounds_toArray, List.set_cons_zero, List.set_cons_succ]
  refine wpAnyH_ready (rs := [10]) (by kernel_rfl) (by simp) ?_
  refine AllReadyH.cons rfl (fun KK hK => ?_) AllReadyH.nil
  rw [if_pos (by rfl)]
  go_simp
  go_at_call 25
  have hlo := rof_any key ps.length Y hk (by omega)
  rw [HOF.out] at hlo
  refine hlo.mono ?_
  clear hlo
  rintro e w2 ⟨rfl, rfl⟩
  go_simp
  refine hK.out _ _ (HS.out _ hbY) (fun hHeld => ?_)
  clear hK KK
  try simp only [Act.put, List.getElem_toArray, List.getElem_cons_zero, List.getElem_cons_succ, List.setIfInBounds_toArray, List.set_cons_zero, List.set_cons_succ]
  refine wpAnyH_take (i := 11) (v := ?v14) rfl (by kernel_rfl) (by kernel_rfl) (by kernel_rfl) (fun _ _ _ h => h) (Or.inl ⟨by rfl, ?hy14⟩) (by assumption) ?rest14
  case hy14 => (intro wy hSw; (try dsimp only at hSw); go_simp; (first | done | with_reducible rfl))
  try simp only [Act.put, List.getElem_toArray, List.getElem_cons_zero, List.getElem_cons_succ, List.setIfInBounds_toArray, List.set_cons_zero, List.set_cons_succ]
  refine wpAnyH_take (i := 12) (v := ?v15) rfl (by kernel_rfl) (by kernel_rfl) (by kernel_rfl) (fun _ _ _ h => h) (Or.inl ⟨by rfl, ?hy15⟩) (by assumption) ?rest15
  case hy15 => (intro wy hSw; (try dsimp only at hSw); go_simp; (first | done | with_reducible rfl))
  try simp only [Act.put, List.getElem_toArray, List.getElem_cons_zero, List.getElem_cons_succ, List.setIfInBounds_toArray, List.set_cons_zero, List.set_cons_succ]
  refine wpAnyH_ready (rs := [16]) (by kernel_rfl) (by simp) ?_
  refine AllReadyH.cons rfl (fun KK hK => ?_) AllReadyH.nil
  rw [if_pos (by rfl)]
  go_simp
  go_at_call 21
  have hob : Ds Y B p κ cap (st.getD i Lt.nil) (F i) := by rw [← HP.out]; exact HDY.out.fam.ob i hil
  refine (hob.do_any op key val (hv.sh i hin) hc16 (Nat.le_trans (hv.clk i hin) hc) (by omega)).mono ?_
  rintro e w1 ⟨rfl, G1, hd1, hn1⟩
  rw [HQ.out] at hd1 ⊢
  have hst := HDY.out.step hil (s' := s') (G := G1) (by rw [HP.out]; exact hd1) hn1
  have HST := keepG hst
  have Hr1 := keepG (HrY.out.chg hn1.chg (hob.other HrY.out (by decide) (by decide) (by decide) (by decide) (by decide) (by decide)))
  have y0 : w1.cell? ⟨r, 0, none⟩ = some (.slice (some ⟨g, 0, none⟩) ps.length cc) := hst.1.hp.cell (j := 0) rfl
  have y1 : w1.cell? ⟨g, i, none⟩ = some (.pointer (some ⟨p, 0, none⟩)) := by
    obtain ⟨g', c', ev, _, _, _, _, hat'⟩ := own_atG ptC_len 0 hst.1.row (by omega)
    simp only [Value.slice.injEq, Option.some.injEq, Addr.mk.injEq, true_and, and_true] at ev
    obtain ⟨rfl, rfl⟩ := ev
    have := (hat' i hil 0 (by omega)).1
    simp only [List.getElem?_cons_zero, Nat.add_zero, Nat.mul_one] at this
    rw [HP.out] at this
    exact this
  have x0 := Hr1.out.cell (j := 0) rfl
  have f0 := Hr1.out.frozen 0
  have x1 := Hr1.out.cell (j := 1) rfl
  have f1 := Hr1.out.frozen 1
  have x2 := Hr1.out.cell (j := 2) rfl
  have f2 := Hr1.out.frozen 2
  have x3 := Hr1.out.cell (j := 3) rfl
  have f3 := Hr1.out.frozen 3
  have x4 := Hr1.out.cell (j := 4) rfl
  have f4 := Hr1.out.frozen 4
  have x5 := Hr1.out.cell (j := 5) rfl
  have f5 := Hr1.out.frozen 5
  clear hst hd1 hn1 hob
  go_simp
  refine hK.out _ _ ⟨y0, y1⟩ (fun hHeld => ?_)
  clear hK KK
  try simp only [Act.put, List.getElem_toArray, List.getElem_cons_zero, List.getElem_cons_succ, List.setIfInBounds_toArray, List.set_cons_zero, List.set_cons_succ]
  refine wpAnyH_ready (rs := [17]) (by kernel_rfl) (by simp) ?_
  refine AllReadyH.cons rfl (fun KK hK => ?_) AllReadyH.nil
  rw [if_pos (by rfl)]
  go_simp
  refine hK.out _ _ (by go_keep) (fun hHeld => ?_)
  clear hK KK
  try simp only [Act.put, List.getElem_toArray, List.getElem_cons_zero, List.getElem_cons_succ, List.setIfInBounds_toArray, List.set_cons_zero, List.set_cons_succ]
  refine wpAnyH_done (by kernel_rfl) ?_ _
  go_wp2
  exact res_end (fun w' F' => Dmo w' B r n cap κ (st.set i s') F') (fun h hc ha => h.keeps hc ha) hbY hzY hlies Hr1.out rfl ⟨_, ps, _, HST.out.1, HLen.out, rfl⟩ HST.out.2
end
end Go.Proofs.Ytinoelooccmmnaa
namespace Go.Proofs.Ytinoelooccmmnaa
open Go.RowKit
set_option linter.unusedVariables false
set_option linter.unusedSimpArgs false
set_option maxRecDepth 100000

theorem Ds.low {w : World} {B B' p cap : Nat} {κ : Bool} {s : Lt} {F : Ft} (h : Ds w B p κ cap s F) (hB : B' ≤ B) : Ds w B' p κ cap s F := by
  rcases h with ⟨e, b, G, hp, ⟨v, hb, hG⟩, hF⟩ | ⟨e, l, G, hp, ⟨b, vd, vk, vw, hb, hG⟩, hF⟩
  · exact .inl ⟨e, b, G, hp, ⟨v, ⟨hb.hp, own_lowG hb.row hB⟩, hG⟩, hF⟩
  · exact .inr ⟨e, l, G, hp, ⟨b, vd, vk, vw, ⟨hb.hp, ⟨hb.bk.hp, own_lowG hb.bk.row hB⟩, own_lowG hb.ks hB, own_lowG hb.ws hB⟩, hG⟩, hF⟩
section
variable {w0 w w2 : World} {B r cap : Nat} {κ : Bool} {rv v2 : Value} {ps : List Nat} {st : List Lt} {F : Nat → Ft}
/-- One shard more. -/
theorem Dm.more (h : Dm w B r cap κ rv ps st F) {w1 : World} {p : Nat} {s : Lt} {G : Ft} (hb1 : Below w.heap.size w w1) (hs : Ds w1 B p κ cap s G) (hG : Since w G) {o : Obj} (hB : B ≤ w.heap.size) (hown : w2.ownsRow B 49 1 v2 (ps.length + 1) (flatG ptC ps ++ ptC p)) (hgr : (w1.alloc o).grownBy w2 rv.ownBlock) :
    Dm (w2.setCell ⟨r, 0, none⟩ v2) B r cap κ v2 (ps ++ [p]) (st ++ [s]) (upd F ps.length G) := by
  have h1 := h.below hb1
  have hc2 := chg_append hgr
  have hc3 : Chg w2 (w2.setCell ⟨r, 0, none⟩ v2) (fun k => k = r) := Chg.set _ _ _ _
  have hrow1 : ∀ k, rv.ownBlock = some k → ∃ cs, Hp w1 k 49 cs := fun k hk => own_hpC h1.row hk
  have hr1 : rv.ownBlock ≠ some r := own_type10 h1.row h1.hp (by decide)
  have hp2 : Hp w2 r 52 [rv] := h1.hp.chg hc2 (fun e => hr1 e)
  have hv2 : v2.ownBlock ≠ some r := own_type10 hown hp2 (by decide)
  have key : ∀ {q : Nat} {t : Lt} {H : Ft}, Ds w1 B q κ cap t H → Ds (w2.setCell ⟨r, 0, none⟩ v2) B q κ cap t H := fun {q t H} hd => by
    have hd2 : Ds w2 B q κ cap t H := hd.keeps hc2 (fun k e1 e2 => by
      obtain ⟨cs, hq⟩ := hrow1 k e1
      exact hd.other hq (by decide) (by decide) (by decide) (by decide) (by decide) (by decide) e2)
    exact hd2.keeps hc3 (fun k e1 e2 => by subst e1; exact hd2.other hp2 (by decide) (by decide) (by decide) (by decide) (by decide) (by decide) e2)
  have hl : (ps ++ [p]).length = ps.length + 1 := by simp
  refine ⟨hp2.set 0 v2, ?_, by simp [h.len], ?_⟩
  · rw [hl, flatG_more]
    exact own_chg hown hc3 (fun k hk e => by subst e; exact hv2 hk)
  · rw [hl]
    refine Fam.more (P := fun w i G => Ds w B (ps.getD i 0) κ cap (st.getD i Lt.nil) G) h.fam ?_ hG (key hs).lies ?_ (fun j hj hd => ?_)
    · exact Nat.le_trans (Nat.le_trans hb1.size hc2.size) hc3.size
    · have e1 : (ps ++ [p]).getD ps.length 0 = p := by simp
      have e2 : (st ++ [s]).getD ps.length Lt.nil = s := by rw [← h.len]; simp
      show Ds _ B ((ps ++ [p]).getD ps.length 0) κ cap ((st ++ [s]).getD ps.length Lt.nil) G
      rw [e1, e2]
      exact key hs
    · have e1 : (ps ++ [p]).getD j 0 = ps.getD j 0 := by simp [List.getElem?_append_left hj]
      have e2 : (st ++ [s]).getD j Lt.nil = st.getD j Lt.nil := by simp [List.getElem?_append_left (show j < st.length by rw [h.len]; exact hj)]
      show Ds _ B ((ps ++ [p]).getD j 0) κ cap ((st ++ [s]).getD j Lt.nil) (F j)
      rw [e1, e2]
      exact key (hd.below hb1)
end
/-- The document's map as it is being made. -/
structure Dn (w wr : World) (cap : Nat) (κ : Bool) (kk : Int) (rv : Value) (ps : List Nat) (F : Nat → Ft) (j : Nat) : Prop where
  m : Dm wr w.heap.size (w.heap.size + 1) cap κ rv ps (List.replicate j Lt.nil) F
  l : ps.length = j
  s : Since w (footM (w.heap.size + 1) rv ps.length F)
  d : Hp wr w.heap.size 24 [.int .i64 kk, .int .i64 cap]
  b : Below w.heap.size w wr
theorem Dn.next {w wr w1 w2 : World} {cap : Nat} {κ : Bool} {kk : Int} {rv v2 : Value} {ps : List Nat} {F : Nat → Ft} {j p : Nat} {G : Ft} {o : Obj} (h : Dn w wr cap κ kk rv ps F j) (hb1 : Below wr.heap.size wr w1) (hs : Ds w1 wr.heap.size p κ cap Lt.nil G) (hG : Since wr G) (hown : w2.ownsRow w.heap.size 49 1 v2 (ps.length + 1) (flatG ptC ps ++ ptC p)) (hgr : (w1.alloc o).grownBy w2 rv.ownBlock) :
    Dn w (w2.setCell ⟨w.heap.size + 1, 0, none⟩ v2) cap κ kk v2 (ps ++ [p]) (upd F ps.length G) (j + 1) ∧ w2.cell? ⟨w.heap.size + 1, 0, none⟩ = some rv ∧ w2.frozen? ⟨w.heap.size + 1, 0, none⟩ = false := by
  have hzw := h.b.size
  have hm1 := h.m.below hb1
  have hc2 := chg_append hgr
  have hb1w : Below w.heap.size w w1 := h.b.trans (hb1.mono hzw)
  have hp2 := hm1.hp.chg hc2 (own_type10 hm1.row hm1.hp (by decide))
  have hd1 := h.d.below hb1 h.d.lt
  have hd2 := hd1.chg hc2 (own_type10 hm1.row hd1 (by decide))
  have hb2 : Below w.heap.size w w2 := hb1w.trans (hc2.below (fun k e => (hm1.row.lt k e).1) hb1w.size)
  have hmr := h.m.more hb1 (hs.low hzw) hG hzw hown hgr
  rw [show List.replicate j Lt.nil ++ [Lt.nil] = List.replicate (j + 1) Lt.nil from List.replicate_succ'.symm] at hmr
  refine ⟨⟨hmr, by rw [List.length_append, h.l]; rfl, fun k hk => ?_, hd2.far (by omega), ?_⟩, hp2.cell (j := 0) rfl, hp2.frozen 0⟩
  · rcases hk with e | e | ⟨i, hi, e⟩
    · omega
    · exact (hown.lt k e).1
    · by_cases e2 : i = ps.length
      · subst e2
        rw [upd_same] at e
        exact Nat.le_trans hzw (hG k e)
      · rw [upd_other F G e2] at e
        exact h.s k (.inr (.inr ⟨i, by rw [List.length_append] at hi; simp at hi; omega, e⟩))
  · refine hb2.trans ((Chg.set w2 (w.heap.size + 1) 0 v2).below (fun k e => ?_) hb2.size)
    omega
set_option maxHeartbeats 8000000 in
theorem dnew_ok (κ : Bool) (cap n : Nat) (h1 : 1 ≤ cap) (h2 : cap ≤ 16) (hn : 1 ≤ n) (hn4 : n ≤ 4) (w : World) : Calls Try.prog 9 #[defV (kindI κ) cap, .int .i64 n] w fun e w' => ∃ r G, e = .returned (.tuple #[.pointer (some ⟨r, 0, none⟩), .int .i64 0]) ∧ Dmo w' w.heap.size r n cap κ (List.replicate n Lt.nil) G ∧ Since w G ∧ Below w.heap.size w w' := by
  obtain ⟨kk, HKK⟩ : ∃ kk, Hid (kindI κ = kk) := ⟨_, rfl⟩
  rw [HKK.out]
  obtain ⟨i0, hi0, hz0, hzs, hzb⟩ := info_parts infoDs
  obtain ⟨X, HX, hbX, hpX⟩ : ∃ X, Hid (w.alloc (.cells #[.int .i64 kk, .int .i64 cap] 24) = X) ∧ Below w.heap.size w X ∧ Hp X w.heap.size 24 [.int .i64 kk, .int .i64 cap] := ⟨_, rfl, below_allocG _ _, Hp.new w [.int .i64 kk, .int .i64 cap] _⟩
  have hzX : X.heap.size = w.heap.size + 1 := by rw [← HX.out]; simp
  obtain ⟨Z, HZ, hbZ, hpZ⟩ : ∃ Z, Hid (X.alloc (.cells #[.slice none 0 0] 52) = Z) ∧ Below X.heap.size X Z ∧ Hp Z X.heap.size 52 [.slice none 0 0] := ⟨_, rfl, below_allocG _ _, Hp.new X [.slice none 0 0] _⟩
  have hn1I : ¬ (n : Int) < 1 := by omega
  have hn4I : ¬ (4 : Int) < n := by omega
  have HD0 : Hid (Dn w Z cap κ kk (.slice none 0 0) [] (fun _ _ => False) 0) := ⟨⟨by rw [← hzX]; exact hpZ, World.ownsRow_nil _ _ _ _, rfl, Fam.nil⟩, rfl, fun k hk => by
    rcases hk with e | e | ⟨i, hi, _⟩
    · omega
    · cases e
    · exact absurd hi (by simp), hpX.below hbZ hpX.lt, hbX.trans (hbZ.mono (by omega))⟩
  have HZZ : Hid ((w.alloc (.cells #[.int .i64 kk, .int .i64 cap] 24)).alloc (.cells #[.slice none 0 0] 52) = Z) := by show _ = _; rw [HX.out]; exact HZ.out
  clear hpX hpZ hbX hbZ hzX
  go_enter Try.func9, Try.ntmps9
  go_wp2
  rw [HZZ.out]
  go_loopw [7] (fun i wr => ∃ j : Nat, j ≤ n ∧ i = .int .i64 j ∧ ∃ rv ps F, Hid (Dn w wr cap κ kk rv ps F j)) (fun i _ => n - (intOf i).toNat)
  case atStart => exact ⟨0, by omega, rfl, _, [], _, HD0.out⟩
  case round =>
    obtain ⟨j, hj, rfl, rv, ps, F, HM⟩ := hrel
    rename World => wr
    have hzw := HM.out.b.size
    by_cases hlt : j < n
    · have hltI : (j : Int) < n := by omega
      have hps : ps.length ≤ 4 := by have := HM.out.l; omega
      have c0 := HM.out.d.cell (j := 0) rfl
      have c1 := HM.out.d.cell (j := 1) rfl
      obtain ⟨xa, xc, rfl⟩ := own_shape HM.out.m.row
      have hmk := dmake_ok κ cap h1 h2 wr
      rw [HKK.out] at hmk
      have HMK := keepG hmk
      clear hmk
      go_wp2_with (first
        | (go_at_call 20; go_must (refine HMK.out.mono ?_); rintro e w1 ⟨p, G, rfl, hds, hsG, hb1⟩; go_must (have HD1 := keepG hds; have HG1 := keepG hsG; have HM1 := keepG (HM.out.m.below hb1); have r0 := HM1.out.hp.cell (j := 0) rfl; have hz1 := hb1.size; have hlr := HM1.out.hp.lt; clear hds hsG))
        | (at_builtin; go_must (refine wpList_append_own_at _ rfl (.tmp 35) (.tmp 37) 50 rfl w.heap.size 49 i0 _ 1 8 Try.underlying50 hi0 hz0 hzs hzb rfl (by decide) (.slice xa ps.length xc) ps.length (flatG ptC ps) rfl (HM1.out.row.alloc _) ⟨_, 0, none⟩ 1 1 (ptC p) rfl rfl (cells_new _ (ptC p) _ _ rfl) (ptC_one p) (by unfold maxLen; omega) (by omega) (by simp; omega) ?_); intro v2 w2 hown hgr _ hnew; go_must (obtain ⟨hmr, z0, zf0⟩ := HM.out.next hb1 HD1.out HG1.out hown hgr; have HMR := keepG hmr; obtain ⟨va, vc, rfl⟩ := own_shape hown; clear hown hgr hnew hmr)))
      first
        | (go_roundw
           case rel => exact ⟨j + 1, by omega, by go_num, _, ps ++ [p], _, HMR.out⟩
           case measure => simp [intOf]; omega)
        | exact ⟨⟨j + 1, by omega, by go_num, _, ps ++ [p], _, HMR.out⟩, by simp [intOf]; omega⟩
    · have hltI : ¬ (j : Int) < n := by omega
      have HE : Hid (j = n) := by show _ = _; omega
      go_wp2
      go_ret2
      refine ⟨w.heap.size + 1, rfl, footM (w.heap.size + 1) rv ps.length F, ?_, HM.out.s, HM.out.b⟩
      have := HM.out
      rw [HE.out] at this
      exact ⟨rv, ps, F, this.m, this.l, rfl⟩
theorem dnew_no (k c n : Int) (h : (n < 1 ∨ 4 < n) ∨ defNo k c) (w : World) : Calls Try.prog 9 #[defV k c, .int .i64 n] w fun e w' => e = .returned (.tuple #[.pointer none, .int .i64 2]) ∧ Below w.heap.size w w' := by
  by_cases h1 : n < 1
  · go_enter Try.func9, Try.ntmps9
    go_wp2
    go_ret2
    exact ⟨rfl, below_allocG _ _⟩
  by_cases h4 : 4 < n
  · go_enter Try.func9, Try.ntmps9
    go_wp2
    go_ret2
    exact ⟨rfl, below_allocG _ _⟩
  have hd : defNo k c := by rcases h with (g | g) | g; exact absurd g h1; exact absurd g h4; exact g
  have h0 : (0 : Int) < n := by omega
  obtain ⟨X, HX, hbX, hpX⟩ : ∃ X, Hid ((w.alloc (.cells #[.int .i64 k, .int .i64 c] 24)).alloc (.cells #[.slice none 0 0] 52) = X) ∧ Below w.heap.size w X ∧ Hp X w.heap.size 24 [.int .i64 k, .int .i64 c] := ⟨_, rfl, (below_allocG _ _).alloc (by simp) _, (Hp.new w [.int .i64 k, .int .i64 c] _).alloc _⟩
  have hzX := hbX.size
  have c0 := hpX.cell (j := 0) rfl
  have c1 := hpX.cell (j := 1) rfl
  go_enter Try.func9, Try.ntmps9
  go_wp2
  rw [HX.out]
  go_loopw [7] (fun i wr => i = .int .i64 0 ∧ X = wr) (fun i _ => 1)
  case atStart => exact ⟨rfl, rfl⟩
  case round =>
    obtain ⟨rfl, rfl⟩ := hrel
    go_wp2_with (go_at_call 20; go_must (refine (dmake_no k c hd X).mono ?_); rintro e w1 ⟨rfl, hb1⟩)
    go_ret2
    exact ⟨rfl, hbX.trans (hb1.mono hzX)⟩
end Go.Proofs.Ytinoelooccmmnaa
namespace Go.Proofs.Ytinoelooccmmnaa
open Go.RowKit
set_option linter.unusedVariables false
set_option linter.unusedSimpArgs false
set_option maxRecDepth 100000

theorem walkM_more {ts : List Sr} {j : Nat} (hj : j < ts.length) : walkM (ts.take (j + 1)) = walkM (ts.take j) ++ (ts.getD j Sr.nil).1 := by
  unfold walkM
  have h1 : ts.take (j + 1) = ts.take j ++ [ts.getD j Sr.nil] := by
    rw [List.take_add_one, List.getD_eq_getElem?_getD, List.getElem?_eq_getElem hj]
    rfl
  rw [h1, List.flatMap_append]
  simp
theorem walkM_len {ts : List Sr} {c : Nat} (h : ∀ i, i < ts.length → (ts.getD i Sr.nil).1.length ≤ c) : ∀ j, j ≤ ts.length → (walkM (ts.take j)).length ≤ j * c := by
  intro j
  induction j with
  | zero => intro _; simp [walkM]
  | succ j ih =>
    intro hj
    rw [walkM_more (by omega), List.length_append, Nat.add_mul, Nat.one_mul]
    have := ih (by omega)
    have := h j (by omega)
    omega
theorem flat_oneW (T : List Pp) : ∀ u ∈ flatG ppC T, u.oneCell' = true := flat_one T
set_option maxHeartbeats 8000000 in
theorem Dmo.walk {w : World} {B r n cap c : Nat} {κ : Bool} {st : List Lt} {G : Ft} {ts : List Sr} (h : Dmo w B r n cap κ st G) (hv : InvDm κ cap n c st ts) (hn4 : n ≤ 4) (hc16 : cap ≤ 16) {W : List Pp} (HW : Hid (walkM ts = W)) :
    Calls Try.prog 13 #[.pointer (some ⟨r, 0, none⟩)] w fun e w' => ∃ u, e = .returned u ∧ w'.ownsRow w.heap.size 64 2 u W.length (flatG ppC W) ∧ Below w.heap.size w w' := by
  obtain ⟨rv, ps, F, h1, hpn, rfl⟩ := h
  obtain ⟨i0, hi0, hz0, hzs, hzb⟩ := info_parts infoPr
  have htl := hv.len
  have hwl := walkM_len (ts := ts) (c := 16) (fun i hi => Nat.le_trans (hv.sh i (by omega)).sh.len hc16)
  have HWL := keepG hwl
  clear hwl
  have HH := keepG h1
  have c0 := h1.hp.cell (j := 0) rfl
  obtain ⟨xa, xc, rfl⟩ := own_shape h1.row
  clear h1
  go_enter Try.func13, Try.ntmps13
  go_wp2
  go_loopw [3, 4] (fun ov i wr => ∃ j : Nat, j ≤ ps.length ∧ i = .int .i64 j ∧ Hid (wr.ownsRow w.heap.size 64 2 ov (walkM (ts.take j)).length (flatG ppC (walkM (ts.take j)))) ∧ Below w.heap.size w wr) (fun _ i _ => ps.length - (intOf i).toNat)
  case atStart => exact ⟨0, by omega, rfl, World.ownsRow_nil _ _ _ _, Below.refl _ _⟩
  case round =>
    obtain ⟨j, hj, rfl, HO, hbw⟩ := hrel
    rename World => wr
    have hzw := hbw.size
    have HR := keepG (HH.out.below hbw)
    have l0 := HR.out.hp.cell (j := 0) rfl
    obtain ⟨oa, oc, ev⟩ := own_shape HO.out
    subst ev
    by_cases hlt : j < ps.length
    · have hltI : (j : Int) < ps.length := by omega
      obtain ⟨g, cc, ev, _, hg, _, _, hat⟩ := own_atG ptC_len 0 HR.out.row (by omega)
      simp only [Value.slice.injEq, true_and] at ev
      obtain ⟨rfl, rfl⟩ := ev
      have d0 := (hat j hlt 0 (by omega)).1
      simp only [List.getElem?_cons_zero, Nat.add_zero, Nat.mul_one] at d0
      clear hat
      obtain ⟨p, HP⟩ : ∃ p, Hid (ps.getD j 0 = p) := ⟨_, rfl⟩
      rw [HP.out] at d0
      have hob := HR.out.fam.ob j hlt
      rw [HP.out] at hob
      have HPR := keepG (hob.pairs (hv.sh j (by omega)) hc16)
      have HM := keepG (walkM_more (ts := ts) (j := j) (by omega))
      have hMl : (walkM (ts.take j)).length ≤ 64 := by have := HWL.out j (by omega); omega
      have hsl : (ts.getD j Sr.nil).1.length ≤ 16 := Nat.le_trans (hv.sh j (by omega)).sh.len hc16
      obtain ⟨M, HMM⟩ : ∃ M, Hid (walkM (ts.take j) = M) := ⟨_, rfl⟩
      obtain ⟨T, HTT⟩ : ∃ T, Hid ((ts.getD j Sr.nil).1 = T) := ⟨_, rfl⟩
      rw [HMM.out, HTT.out] at HM
      rw [HMM.out] at HO hMl ⊢
      rw [HTT.out] at hsl HPR
      clear hob
      go_wp2_with (first
        | (go_at_call 18; go_must (refine HPR.out.mono ?_); rintro e w1 ⟨u, rfl, ho1, hb1⟩; go_must (obtain ⟨v2, w2, hr2, ho2, hg2, _⟩ := run_append_seesG (f := ppC) (d := Pp.nil) (P := Try.prog) w1 w.heap.size 43 43 64 i0 _ 2 16 Try.underlying43 hi0 hz0 hzs hzb rfl (by decide) (.slice oa M.length oc) M.length (flatG ppC M) (own_below HO.out hb1 (Nat.le_refl _)) ppC_len (own_seesG ppC_len Pp.nil ho1) (flat_oneW T) (by unfold maxLen; omega) (by omega) (by have := hb1.size; omega); have HR2 := keepG hr2; have HO2 := keepG ho2; have hb2 : Below w.heap.size w w2 := (hbw.trans (hb1.mono hzw)).trans ((Chg.of_grown' hg2 (S := fun k => (Value.slice oa M.length oc).ownBlock = some k) (fun b hb => hb)).below (fun k e => (HO.out.lt k e).1) (by have := hb1.size; omega)); obtain ⟨ua, uc, rfl⟩ := own_shape ho1; clear hr2 ho2 hg2 ho1))
        | (at_builtin; go_must (refine wpList_appG _ rfl (.tmp 14) (.tmp 22) 43 43 rfl _ _ rfl rfl HR2.out ?_; obtain ⟨va, vc, rfl⟩ := own_shape HO2.out)))
      have eM : (M ++ T).length = M.length + T.length := List.length_append
      first
        | (go_roundw
           case rel => exact ⟨j + 1, by omega, by go_num, by have hh := HO2.out; rw [HM.out, flatG_app]; show World.ownsRow _ _ _ _ _ _ _; rw [eM]; exact hh, hb2⟩
           case measure => simp [intOf]; omega)
        | exact ⟨⟨j + 1, by omega, by go_num, by have hh := HO2.out; rw [HM.out, flatG_app]; show World.ownsRow _ _ _ _ _ _ _; rw [eM]; exact hh, hb2⟩, by simp [intOf]; omega⟩
    · have hltI : ¬ (j : Int) < ps.length := by omega
      have hT : ts.take j = ts := List.take_of_length_le (by omega)
      obtain ⟨M, HMM⟩ : ∃ M, Hid (walkM (ts.take j) = M) := ⟨_, rfl⟩
      rw [HMM.out] at HO ⊢
      rw [hT, HW.out] at HMM
      obtain rfl : W = M := HMM.out
      clear hT
      go_wp2
      go_ret
      exact ⟨_, rfl, HO.out, hbw⟩
end Go.Proofs.Ytinoelooccmmnaa
namespace Go.Proofs.Ytinoelooccmmnaa
open Go.RowKit
set_option linter.unusedVariables false
set_option linter.unusedSimpArgs false
set_option maxRecDepth 100000

theorem InvDm.do {κ : Bool} {cap n c : Nat} {st : List Lt} {ts : List Sr} (h : InvDm κ cap n c st ts) (hl : st.length = n) (op key val : Int) (hi : atM key n < n) : (doM κ cap ts op key val).1 = (doD κ cap (st.getD (atM key n) Lt.nil) op key val).1 ∧ InvDm κ cap n (c + 1) (st.set (atM key n) (doD κ cap (st.getD (atM key n) Lt.nil) op key val).2) (doM κ cap ts op key val).2 := by
  obtain ⟨e1, e2⟩ := (h.sh _ hi).do op key val
  have ht := h.len
  unfold doM
  rw [ht]
  refine ⟨e1, ⟨by simp [ht], fun j hj => ?_, fun j hj => ?_⟩⟩
  · by_cases e : atM key n = j
    · subst e
      rw [getD_set_same (by omega), getD_set_same (by omega)]
      exact e2
    · rw [getD_set_other e, getD_set_other e]
      exact h.sh j hj
  · by_cases e : atM key n = j
    · subst e
      rw [getD_set_same (by omega)]
      have := doD_c κ cap (st.getD (atM key n) Lt.nil) op key val
      have := h.clk _ hi
      omega
    · rw [getD_set_other e]
      exact Nat.le_succ_of_le (h.clk j hj)
theorem InvDm.inv {κ : Bool} {cap n c : Nat} {st : List Lt} {ts : List Sr} (h : InvDm κ cap n c st ts) : InvM κ cap ts := fun i hi => (h.sh i (by rw [← h.len]; exact hi)).sh
theorem InvDm.new {κ : Bool} {cap n : Nat} (h : 1 ≤ cap) : InvDm κ cap n 0 (List.replicate n Lt.nil) (List.replicate n Sr.nil) := by
  have e1 : ∀ i, i < n → (List.replicate n Lt.nil).getD i Lt.nil = Lt.nil := fun i hi => by rw [List.getD_eq_getElem?_getD, List.getElem?_replicate, if_pos hi]; rfl
  have e2 : ∀ i, i < n → (List.replicate n Sr.nil).getD i Sr.nil = Sr.nil := fun i hi => by rw [List.getD_eq_getElem?_getD, List.getElem?_replicate, if_pos hi]; rfl
  refine ⟨by simp, fun i hi => ?_, fun i hi => ?_⟩
  · rw [e1 i hi, e2 i hi]
    exact ⟨InvSh.new h, List.Perm.refl _, fun _ => ⟨⟨⟨List.Pairwise.nil, fun p hp => by cases hp⟩, ⟨List.Pairwise.nil, List.Perm.refl _, by simp [Sr.nil], h⟩, List.Perm.refl _⟩, rfl⟩⟩
  · rw [e1 i hi]; exact Nat.le_refl _
/-- The document's map: a shard of it, also in a later world. -/
theorem Dmo.shard {w : World} {B r n cap c : Nat} {κ : Bool} {st : List Lt} {G : Ft} {ts : List Sr} (h : Dmo w B r n cap κ st G) (hv : InvDm κ cap n c st ts) (hc16 : cap ≤ 16) {i : Nat} (hi : i < n) : ∃ g cc p, w.cell? ⟨r, 0, none⟩ = some (.slice (some ⟨g, 0, none⟩) n cc) ∧ w.cell? ⟨g, i, none⟩ = some (.pointer (some ⟨p, 0, none⟩)) ∧ r < w.heap.size ∧ g < w.heap.size ∧
    Hid (∀ w', Below w.heap.size w w' → Calls Try.prog 18 #[.pointer (some ⟨p, 0, none⟩)] w' fun e w'' => ∃ u, e = .returned u ∧ w''.ownsRow w'.heap.size 64 2 u (ts.getD i Sr.nil).1.length (flatG ppC (ts.getD i Sr.nil).1) ∧ Below w'.heap.size w' w'') := by
  obtain ⟨rv, ps, F, h1, hpn, rfl⟩ := h
  obtain ⟨g, cc, rfl, _, hg, _, _, hat⟩ := own_atG ptC_len 0 h1.row (by omega)
  have d0 := (hat i (by omega) 0 (by omega)).1
  simp only [List.getElem?_cons_zero, Nat.add_zero, Nat.mul_one] at d0
  refine ⟨g, cc, ps.getD i 0, by rw [← hpn]; exact h1.hp.cell (j := 0) rfl, d0, h1.hp.lt, hg, fun w' hb => ((h1.fam.ob i (by omega)).below hb).pairs (hv.sh i hi) hc16⟩
/-- The landed map and the document's. -/
structure Pm (w0 w : World) (l r n cap : Nat) (κ : Bool) (k : Int) (ts : List Sr) (st : List Lt) : Prop where
  ex : ∃ B C F G, B ≤ w.heap.size ∧ C ≤ w.heap.size ∧ Lmo w B l n cap κ k ts F ∧ Dmo w C r n cap κ st G ∧ Two w0 w F G
  n1 : 1 ≤ n
  n4 : n ≤ 4
  c16 : cap ≤ 16
section
variable {w0 w w' : World} {l r n cap : Nat} {κ : Bool} {k : Int} {ts us : List Sr} {st : List Lt}
theorem Pm.below (h : Pm w0 w l r n cap κ k ts st) (hb : Below w.heap.size w w') : Pm w0 w' l r n cap κ k ts st := by
  obtain ⟨B, C, F, G, h1, h2, h3, h4, h5⟩ := h.ex
  exact ⟨⟨B, C, F, G, Nat.le_trans h1 hb.size, Nat.le_trans h2 hb.size, h3.below hb, h4.below hb, h5.below hb⟩, h.n1, h.n4, h.c16⟩
theorem Pm.drewN (h : Pm w0 w l r n cap κ k ts st) (m : Nat) : Pm w0 (w.drewN m) l r n cap κ k ts st := h.below ⟨rfl, rfl, rfl, Nat.le_refl _, fun _ _ => rfl⟩
theorem Pm.be (h : Pm w0 w l r n cap κ k ts st) : Below w0.heap.size w0 w := by
  obtain ⟨B, C, F, G, h1, h2, h3, h4, h5⟩ := h.ex
  exact h5.be
theorem Pm.len (h : Pm w0 w l r n cap κ k ts st) : st.length = n := by
  obtain ⟨B, C, F, G, h1, h2, h3, ⟨rv, ps, F', g1, g2, rfl⟩, h5⟩ := h.ex
  exact g1.len.trans g2
theorem Pm.doL {op key val : Int} {q : Rq} {ts' : List Sr} (hk : 0 ≤ key ∧ key < 18446744073709551616) (HQ : Hid (doM κ cap ts op key val = (q, ts'))) (h : Pm w0 w l r n cap κ k ts st) (hi : InvM κ cap ts) :
    Calls Try.prog 11 #[.pointer (some ⟨l, 0, none⟩), .int .i64 op, .int .u64 key, .int .u64 val] w fun e w' => e = .returned (resG q.E q.f q.v q.o q.k q.u) ∧ Pm w0 w' l r n cap κ k ts' st := by
  obtain ⟨B, C, F, G, h1, h2, h3, h4, h5⟩ := h.ex
  refine (h3.do_any op key val hi h.n1 h.n4 hk h.c16 h1 HQ).mono ?_
  rintro e w' ⟨rfl, F', g1, g2⟩
  exact ⟨rfl, ⟨⟨B, C, F', G, Nat.le_trans h1 g2.chg.size, Nat.le_trans h2 g2.chg.size, g1, h4.keeps g2.chg h5.apt, h5.one h4.lies g2⟩, h.n1, h.n4, h.c16⟩⟩
theorem Pm.doR {c : Nat} {op key val : Int} {q : Rq} {s' : Lt} {i : Nat} (hk : 0 ≤ key ∧ key < 18446744073709551616) (HI : Hid (atM key n = i)) (HQ : Hid (doD κ cap (st.getD i Lt.nil) op key val = (q, s'))) (h : Pm w0 w l r n cap κ k ts st) (hv : InvDm κ cap n c st us) (hc : c ≤ 4000) :
    Calls Try.prog 12 #[.pointer (some ⟨r, 0, none⟩), .int .i64 op, .int .u64 key, .int .u64 val] w fun e w' => e = .returned (resG q.E q.f q.v q.o q.k q.u) ∧ Pm w0 w' l r n cap κ k ts (st.set i s') := by
  obtain ⟨B, C, F, G, h1, h2, h3, h4, h5⟩ := h.ex
  refine (h4.do_any op key val hv h.n1 h.n4 hk h.c16 hc h2 HI HQ).mono ?_
  rintro e w' ⟨rfl, G', g1, g2⟩
  exact ⟨rfl, ⟨⟨B, C, F, G', Nat.le_trans h1 g2.chg.size, Nat.le_trans h2 g2.chg.size, h3.keeps g2.chg h5.apt.symm, g1, h5.two h3.lies g2⟩, h.n1, h.n4, h.c16⟩⟩
theorem Pm.walkL {W : List Pp} (h : Pm w0 w l r n cap κ k ts st) (hi : InvM κ cap ts) (HW : Hid (walkM ts = W)) :
    Calls Try.prog 15 #[.pointer (some ⟨l, 0, none⟩)] w fun e w' => ∃ u, e = .returned u ∧ w'.ownsRow w.heap.size 64 2 u W.length (flatG ppC W) ∧ Below w.heap.size w w' := by
  obtain ⟨B, C, F, G, h1, h2, h3, h4, h5⟩ := h.ex
  exact h3.walk hi h.n4 h.c16 HW
theorem Pm.walkR {c : Nat} {W : List Pp} (h : Pm w0 w l r n cap κ k ts st) (hv : InvDm κ cap n c st us) (HW : Hid (walkM us = W)) :
    Calls Try.prog 13 #[.pointer (some ⟨r, 0, none⟩)] w fun e w' => ∃ u, e = .returned u ∧ w'.ownsRow w.heap.size 64 2 u W.length (flatG ppC W) ∧ Below w.heap.size w w' := by
  obtain ⟨B, C, F, G, h1, h2, h3, h4, h5⟩ := h.ex
  exact h4.walk hv h.n4 h.c16 HW
theorem Pm.lenM {q : Nat} (h : Pm w0 w l r n cap κ k ts st) (hi : InvM κ cap ts) (HL : Hid ((walkM ts).length = q)) :
    Calls Try.prog 16 #[.pointer (some ⟨l, 0, none⟩)] w fun e w' => e = .returned (.int .i64 q) ∧ w = w' := by
  obtain ⟨B, C, F, G, h1, h2, h3, h4, h5⟩ := h.ex
  exact h3.lenM hi h.n4 h.c16 HL
theorem Pm.part (h : Pm w0 w l r n cap κ k ts st) (hi : InvM κ cap ts) {i : Nat} (hin : i < n) {T : List Pp} (HT : Hid ((ts.getD i Sr.nil).1 = T)) :
    Calls Try.prog 17 #[.pointer (some ⟨l, 0, none⟩), .int .i64 i] w fun e w' => ∃ u, e = .returned (.tuple #[u, .int .i64 0]) ∧ w'.ownsRow w.heap.size 64 2 u T.length (flatG ppC T) ∧ Below w.heap.size w w' := by
  obtain ⟨B, C, F, G, h1, h2, h3, h4, h5⟩ := h.ex
  exact h3.part hi h.n4 h.c16 hin HT
theorem Pm.part_no (h : Pm w0 w l r n cap κ k ts st) (i : Int) (hi : i < 0 ∨ (n : Int) ≤ i) :
    Calls Try.prog 17 #[.pointer (some ⟨l, 0, none⟩), .int .i64 i] w fun e w' => e = .returned (.tuple #[.slice none 0 0, .int .i64 2]) ∧ w = w' := by
  obtain ⟨B, C, F, G, h1, h2, h3, h4, h5⟩ := h.ex
  exact h3.part_no i hi
theorem Pm.shard {c : Nat} (h : Pm w0 w l r n cap κ k ts st) (hv : InvDm κ cap n c st us) {i : Nat} (hi : i < n) : ∃ g cc p, w.cell? ⟨r, 0, none⟩ = some (.slice (some ⟨g, 0, none⟩) n cc) ∧ w.cell? ⟨g, i, none⟩ = some (.pointer (some ⟨p, 0, none⟩)) ∧ r < w.heap.size ∧ g < w.heap.size ∧
    Hid (∀ w', Below w.heap.size w w' → Calls Try.prog 18 #[.pointer (some ⟨p, 0, none⟩)] w' fun e w'' => ∃ u, e = .returned u ∧ w''.ownsRow w'.heap.size 64 2 u (us.getD i Sr.nil).1.length (flatG ppC (us.getD i Sr.nil).1) ∧ Below w'.heap.size w' w'') := by
  obtain ⟨B, C, F, G, h1, h2, h3, h4, h5⟩ := h.ex
  exact h4.shard hv h.c16 hi
theorem Pm.new {w1 w2 w3 : World} {B C : Nat} {F G : Ft} (hb1 : Below w0.heap.size w0 w1) (hL : Lmo w2 B l n cap κ k (List.replicate n Sr.nil) F) (hB : B ≤ w2.heap.size) (hs : Since w1 F) (hb2 : Below w1.heap.size w1 w2) (hM : Dmo w3 C r n cap κ (List.replicate n Lt.nil) G) (hC : C ≤ w3.heap.size) (ht : Since w2 G) (hb3 : Below w2.heap.size w2 w3) (h16 : cap ≤ 16) (hn : 1 ≤ n) (hn4 : n ≤ 4) : Pm w0 w3 l r n cap κ k (List.replicate n Sr.nil) (List.replicate n Lt.nil) := by
  have hz1 := hb1.size
  have hz2 := hb2.size
  have hz3 := hb3.size
  exact ⟨⟨B, C, F, G, by omega, hC, hL.below hb3, hM, Apt.made hL.lies ht, fun k hk => by have := hs k hk; omega, fun k hk => by have := ht k hk; omega, (hb1.trans (hb2.mono hz1)).trans (hb3.mono (by omega))⟩, hn, hn4, h16⟩
end
end Go.Proofs.Ytinoelooccmmnaa
namespace Go.Proofs.Ytinoelooccmmnaa
open Go.RowKit
set_option linter.unusedVariables false
set_option linter.unusedSimpArgs false
set_option maxRecDepth 100000

structure M2 (w0 w : World) (a b n cap : Nat) (κ : Bool) (k : Int) (s t : List Sr) (F G : Ft) : Prop where
  ex : ∃ B C, B ≤ w.heap.size ∧ C ≤ w.heap.size ∧ Lmo w B a n cap κ k s F ∧ Lmo w C b n cap κ k t G
  two : Two w0 w F G
  n1 : 1 ≤ n
  n4 : n ≤ 4
  c16 : cap ≤ 16
  ia : InvM κ cap s
  ib : InvM κ cap t
section
variable {w0 w w' : World} {a b n cap : Nat} {κ : Bool} {k : Int} {s t : List Sr} {F F' G : Ft}
theorem M2.swap (h : M2 w0 w a b n cap κ k s t F G) : M2 w0 w b a n cap κ k t s G F := by
  obtain ⟨B, C, h1, h2, h3, h4⟩ := h.ex
  exact ⟨⟨C, B, h2, h1, h4, h3⟩, h.two.swap, h.n1, h.n4, h.c16, h.ib, h.ia⟩
theorem M2.below (h : M2 w0 w a b n cap κ k s t F G) (hb : Below w.heap.size w w') : M2 w0 w' a b n cap κ k s t F G := by
  obtain ⟨B, C, h1, h2, h3, h4⟩ := h.ex
  exact ⟨⟨B, C, Nat.le_trans h1 hb.size, Nat.le_trans h2 hb.size, h3.below hb, h4.below hb⟩, h.two.below hb, h.n1, h.n4, h.c16, h.ia, h.ib⟩
theorem M2.drewN (h : M2 w0 w a b n cap κ k s t F G) (m : Nat) : M2 w0 (w.drewN m) a b n cap κ k s t F G := h.below ⟨rfl, rfl, rfl, Nat.le_refl _, fun _ _ => rfl⟩
theorem M2.be (h : M2 w0 w a b n cap κ k s t F G) : Below w0.heap.size w0 w := h.two.be
theorem M2.lies (h : M2 w0 w a b n cap κ k s t F G) : Lies w F := by
  obtain ⟨B, C, h1, h2, h3, h4⟩ := h.ex
  exact h3.lies
theorem M2.len (h : M2 w0 w a b n cap κ k s t F G) : s.length = n := by
  obtain ⟨B, C, h1, h2, h3, h4⟩ := h.ex
  exact h3.len
theorem M2.other (h : M2 w0 w a b n cap κ k s t F G) {q : Nat} {ty : TypeId} {cs : List Value} (hp : Hp w q ty cs) (h1 : ty ≠ 97) (h2 : ty ≠ 95) (h3 : ty ≠ 64) (h4 : ty ≠ 35) (h5 : ty ≠ 69) (h6 : ty ≠ 55) : ¬ F q := by
  obtain ⟨B, C, g1, g2, g3, g4⟩ := h.ex
  exact g3.other hp h1 h2 h3 h4 h5 h6
/-- What changes blocks that were made since, and are neither map's, leaves both. -/
theorem M2.chg (h : M2 w0 w a b n cap κ k s t F G) {S : Ft} (hc : Chg w w' S) (hF : Apt S F) (hG : Apt S G) (hS : Since w0 S) : M2 w0 w' a b n cap κ k s t F G := by
  obtain ⟨B, C, h1, h2, h3, h4⟩ := h.ex
  exact ⟨⟨B, C, Nat.le_trans h1 hc.size, Nat.le_trans h2 hc.size, h3.keeps hc hF, h4.keeps hc hG⟩, ⟨h.two.apt, h.two.sf, h.two.sg, h.two.be.trans (hc.below (fun k e => hS k e) h.two.be.size)⟩, h.n1, h.n4, h.c16, h.ia, h.ib⟩
theorem M2.step {s' : List Sr} (h : M2 w0 w a b n cap κ k s t F G) {B : Nat} (hB : B ≤ w.heap.size) (hL : Lmo w' B a n cap κ k s' F') (hn : Nx w w' F F') (hi : InvM κ cap s') : M2 w0 w' a b n cap κ k s' t F' G := by
  obtain ⟨_, C, h1, h2, h3, h4⟩ := h.ex
  exact ⟨⟨B, C, Nat.le_trans hB hn.chg.size, Nat.le_trans h2 hn.chg.size, hL, h4.keeps hn.chg h.two.apt⟩, h.two.one h4.lies hn, h.n1, h.n4, h.c16, hi, h.ib⟩
theorem M2.do {op key val : Int} {q : Rq} {s' : List Sr} (hk : 0 ≤ key ∧ key < 18446744073709551616) (HQ : Hid (doM κ cap s op key val = (q, s'))) (h : M2 w0 w a b n cap κ k s t F G) :
    Calls Try.prog 11 #[.pointer (some ⟨a, 0, none⟩), .int .i64 op, .int .u64 key, .int .u64 val] w fun e w' => e = .returned (resG q.E q.f q.v q.o q.k q.u) ∧ ∃ F', M2 w0 w' a b n cap κ k s' t F' G ∧ Nx w w' F F' := by
  obtain ⟨B, C, h1, h2, h3, h4⟩ := h.ex
  refine (h3.do_any op key val h.ia h.n1 h.n4 hk h.c16 h1 HQ).mono ?_
  rintro e w' ⟨rfl, F', g1, g2⟩
  have hi := h.ia.do op key val (by rw [h3.len]; exact atM_lt h.n1 hk.1)
  rw [HQ.out] at hi
  exact ⟨rfl, F', h.step h1 g1 g2 hi, g2⟩
theorem M2.batch {pv : Value} {is : List It} {rs : List Rq} {s' : List Sr} (h : M2 w0 w a b n cap κ k s t F G) (hs : SeesG itC 4 It.nil w pv is) (hwf : ∀ x ∈ is, It.wf x) (hlen : is.length ≤ 100000) (hap : Apt F (ftV pv)) (HR : Hid (runM κ cap s is = (rs, s'))) :
    Calls Try.prog 22 #[.pointer (some ⟨a, 0, none⟩), pv] w fun e w' => ∃ u, e = .returned u ∧ ∃ F', w'.ownsRow w.heap.size 37 6 u rs.length (flatG rqC rs) ∧ M2 w0 w' a b n cap κ k s' t F' G ∧ Nx w w' F F' := by
  obtain ⟨B, C, h1, h2, h3, h4⟩ := h.ex
  refine (h3.batch h.ia h.n1 h.n4 h.c16 h1 hs hwf hlen hap HR).mono ?_
  rintro e w' ⟨u, rfl, F', g0, g1, g2⟩
  have hi := runM_inv h.n1 is hwf h3.len h.ia
  rw [HR.out] at hi
  exact ⟨u, rfl, F', g0, h.step h1 g1 g2 hi, g2⟩
theorem M2.walk {W : List Pp} (h : M2 w0 w a b n cap κ k s t F G) (HW : Hid (walkM s = W)) :
    Calls Try.prog 15 #[.pointer (some ⟨a, 0, none⟩)] w fun e w' => ∃ u, e = .returned u ∧ w'.ownsRow w.heap.size 64 2 u W.length (flatG ppC W) ∧ Below w.heap.size w w' := by
  obtain ⟨B, C, h1, h2, h3, h4⟩ := h.ex
  exact h3.walk h.ia h.n4 h.c16 HW
theorem M2.lenM {l : Nat} (h : M2 w0 w a b n cap κ k s t F G) (HL : Hid ((walkM s).length = l)) :
    Calls Try.prog 16 #[.pointer (some ⟨a, 0, none⟩)] w fun e w' => e = .returned (.int .i64 l) ∧ w = w' := by
  obtain ⟨B, C, h1, h2, h3, h4⟩ := h.ex
  exact h3.lenM h.ia h.n4 h.c16 HL
theorem M2.walk64 (h : M2 w0 w a b n cap κ k s t F G) : (walkM s).length ≤ 64 := by
  have h1 := walkL_len (ts := s) (c := 16) (fun i hi => Nat.le_trans (h.ia i hi).len h.c16) s.length (Nat.le_refl _)
  rw [List.take_of_length_le (Nat.le_refl _)] at h1
  have := h.len
  have := h.n4
  omega
theorem M2.new {w1 w2 w3 : World} {B C : Nat} (h1 : 1 ≤ cap) (hb1 : Below w0.heap.size w0 w1) (hL : Lmo w2 B a n cap κ k (List.replicate n Sr.nil) F) (hB : B ≤ w2.heap.size) (hs : Since w1 F) (hb2 : Below w1.heap.size w1 w2) (hM : Lmo w3 C b n cap κ k (List.replicate n Sr.nil) G) (hC : C ≤ w3.heap.size) (ht : Since w2 G) (hb3 : Below w2.heap.size w2 w3) (h16 : cap ≤ 16) (hn : 1 ≤ n) (hn4 : n ≤ 4) : M2 w0 w3 a b n cap κ k (List.replicate n Sr.nil) (List.replicate n Sr.nil) F G := by
  have hz1 := hb1.size
  have hz2 := hb2.size
  have hz3 := hb3.size
  exact ⟨⟨B, C, by omega, hC, hL.below hb3, hM⟩, ⟨Apt.made hL.lies ht, fun k hk => by have := hs k hk; omega, fun k hk => by have := ht k hk; omega, (hb1.trans (hb2.mono hz1)).trans (hb3.mono (by omega))⟩, hn, hn4, h16, InvM.new h1, InvM.new h1⟩
end
theorem own_emptyT (w : World) (t : TypeId) (z : Nat) : (w.alloc (.cells #[] t)).ownsRow w.heap.size t z (.slice (some ⟨w.heap.size, 0, none⟩) 0 0) 0 [] := by
  refine ⟨by simp, .inr ⟨w.heap.size, 0, #[], rfl, Nat.le_refl _, heap_alloc_new w _, Nat.le_refl _, by simp [maxLen], by simp, by simp⟩⟩
theorem flat_oneI (T : List It) : ∀ u ∈ flatG itC T, u.oneCell' = true := by
  intro u hu
  obtain ⟨x, _, hx⟩ := List.mem_flatMap.1 hu
  simp at hx
  rcases hx with rfl | rfl | rfl | rfl <;> rfl
theorem infoIt : (Try.prog.info? 41).map (fun i => (i.zero, i.size, i.bytes)) = some (some (.agg #[.int .i64 0, .int .i64 0, .int .u64 0, .int .u64 0]), 4, 32) := by kernel_rfl
end Go.Proofs.Ytinoelooccmmnaa
namespace Go.Proofs.Ytinoelooccmmnaa
open Go.RowKit
set_option linter.unusedVariables false
set_option linter.unusedSimpArgs false
set_option maxRecDepth 100000

theorem newM_inv {κ : Bool} {cap n : Nat} (h : 1 ≤ cap) : InvM κ cap (List.replicate n Sr.nil) := InvM.new h
set_option maxHeartbeats 4000000 in
theorem awake15_any (w : World) : Calls Try.prog 7 #[] w fun e w' => e = .returned (.bool true) ∧ Below w.heap.size w w' := by
  have HQ1 : Hid (doM true 1 [Sr.nil, Sr.nil] 2 0 5 = (⟨0, false, 0, false, 0, 0⟩, [([⟨0, 5⟩], [0]), Sr.nil])) := by show _ = _; rfl
  have HQ2 : Hid (doM true 1 [([⟨0, 5⟩], [0]), Sr.nil] 2 2 6 = (⟨0, false, 0, true, 0, 5⟩, [([⟨2, 6⟩], [2]), Sr.nil])) := by show _ = _; rfl
  have HI0 : Hid (InvM true 1 [Sr.nil, Sr.nil]) := newM_inv (n := 2) (by omega)
  have HI1 : Hid (InvM true 1 [([⟨0, 5⟩], [0]), Sr.nil]) := by have := HI0.out.do 2 0 5 (atM_lt (n := 2) (by omega) (by omega)); rw [HQ1.out] at this; exact this
  have HI2 : Hid (InvM true 1 [([⟨2, 6⟩], [2]), Sr.nil]) := by have := HI1.out.do 2 2 6 (atM_lt (n := 2) (by omega) (by omega)); rw [HQ2.out] at this; exact this
  have hnw := lnewM_ok true 1 2 (by omega) (by omega) (by omega) (by omega) w
  have HNW : Hid (Calls Try.prog 8 #[defW 1 1, .int .i64 2] w fun e w' => ∃ r G, e = .returned (.tuple #[.pointer (some ⟨r, 0, none⟩), .int .i64 0]) ∧ Lmo w' w.heap.size r 2 1 true 1 [Sr.nil, Sr.nil] G ∧ Since w G ∧ Below w.heap.size w w') := hnw
  clear hnw
  have P1 : True := trivial
  go_enter Try.func7, Try.ntmps7
  go_wp2_with (first
    | (go_at_call 8; go_must (refine HNW.out.mono ?_); rintro e w0 ⟨r, G0, rfl, hL0, hs0, hb0⟩; go_must (have HL0 := keepG hL0; have HS0 := keepG hs0; have HB0 := keepG hb0; have hz0 := hb0.size; clear hL0 hs0 hb0))
    | (go_at_call 11; have hq := P1; clear hq; go_must (refine (HL0.out.do_any 2 0 5 HI0.out (by omega) (by omega) (by omega) (by omega) (by omega) HQ1).mono ?_); rintro e w1 ⟨rfl, G1, hL1, hn1⟩; go_must (have HL1 := keepG hL1; have HS1 := keepG (HS0.out.next hz0 hn1); have HB1 := keepG (HS0.out.be HB0.out hn1); have hz1 := HB1.out.size; clear hL1 hn1 P1 HL0 HS0 HB0))
    | (go_at_call 11; go_must (refine (HL1.out.do_any 2 2 6 HI1.out (by omega) (by omega) (by omega) (by omega) (by omega) HQ2).mono ?_); rintro e w2 ⟨rfl, G2, hL2, hn2⟩; go_must (have HL2 := keepG hL2; have HB2 := keepG (HS1.out.be HB1.out hn2); clear hL2 hn2 HL1 HS1 HB1))
    | (go_at_call 16; go_must (refine (HL2.out.lenM HI2.out (by omega) (by omega) (l := 1) (show Hid _ from rfl)).mono ?_); rintro e w3 ⟨rfl, rfl⟩))
  go_ret
  exact ⟨rfl, HB2.out⟩
end Go.Proofs.Ytinoelooccmmnaa
namespace Go.Proofs.Ytinoelooccmmnaa
open Go.RowKit
set_option linter.unusedVariables false
set_option linter.unusedSimpArgs false
set_option maxRecDepth 100000

theorem walk_new (n : Nat) : (walkM (List.replicate n Sr.nil)).length = 0 := by
  induction n with
  | zero => rfl
  | succ n ih => rw [List.replicate_succ]; simp [walkM, Sr.nil]
/-- A pair of a row of one's own written anew. -/
theorem own_setPairC {w : World} {B g cap i : Nat} {L : List Pp} (p : Pp) (h : w.ownsRow B 64 2 (.slice (some ⟨g, 0, none⟩) L.length cap) L.length (flatG ppC L)) (hi : i < L.length) :
    ((w.setCell ⟨g, i * 2, none⟩ (.int .u64 p.k)).setCell ⟨g, i * 2 + 1, none⟩ (.int .u64 p.v)).ownsRow B 64 2 (.slice (some ⟨g, 0, none⟩) L.length cap) (L.set i p).length (flatG ppC (L.set i p)) ∧ Chg w ((w.setCell ⟨g, i * 2, none⟩ (.int .u64 p.k)).setCell ⟨g, i * 2 + 1, none⟩ (.int .u64 p.v)) (fun k => k = g) := by
  have r1 := own_setG ppC_len Pp.nil h (k := i) (j := 0) (x := ⟨p.k, (L.getD i Pp.nil).v⟩) (u := .int .u64 p.k) hi (by omega) rfl
  have r2 := own_setG ppC_len Pp.nil r1 (k := i) (j := 1) (x := p) (u := .int .u64 p.v) (by simpa using hi) (by omega) (by
    have : (L.set i ⟨p.k, (L.getD i Pp.nil).v⟩).getD i Pp.nil = ⟨p.k, (L.getD i Pp.nil).v⟩ := by simp [hi]
    rw [this]
    rfl)
  rw [List.set_set] at r2
  refine ⟨?_, (Chg.set _ _ _ _).trans (Chg.set _ _ _ _) (fun _ _ e => e)⟩
  have e : (L.set i p).length = L.length := List.length_set
  rw [e] at r2 ⊢
  exact r2
theorem pp_oneC (p : Pp) : ∀ u ∈ ppC p, u.oneCell' = true := by intro u hu; simp at hu; rcases hu with rfl | rfl <;> rfl
/-- The argument's box. -/
theorem def_box (w : World) (k c : Int) : ∃ X, Hid (w.alloc (.cells #[.int .i64 k, .int .i64 c] 24) = X) ∧ Below w.heap.size w X ∧ Hid (Hp X w.heap.size 24 [.int .i64 k, .int .i64 c]) := ⟨_, rfl, below_allocG _ _, Hp.new w [.int .i64 k, .int .i64 c] _⟩
theorem cmapBatches_no (k c n : Int) (sv : Value) (w : World) (h : (n < 1 ∨ 4 < n) ∨ defNoL k c) :
    Calls Try.prog 5 #[defW k c, .int .i64 n, sv] w fun e w' => e = .returned (.bool true) ∧ Below w.heap.size w w' := by
  obtain ⟨X, HX, hbX, HpX⟩ := def_box w k c
  have hzX := hbX.size
  have P1 : True := trivial
  go_enter Try.func5, Try.ntmps5
  go_wp2_with (first
    | (go_at_call 7; rw [HX.out]; go_must (refine (awake15_any X).mono ?_); rintro e w1 ⟨rfl, hb1⟩; go_must (have Hp1 := keepG (HpX.out.below hb1 HpX.out.lt); have c0 := Hp1.out.cell (j := 0) rfl; have c1 := Hp1.out.cell (j := 1) rfl))
    | (go_at_call 8; have hq := P1; clear hq; go_must (refine (lnewM_no k c n h w1).mono ?_); rintro e w2 ⟨rfl, hb2⟩; go_must (have Hp2 := keepG (Hp1.out.below hb2 Hp1.out.lt); have c2 := Hp2.out.cell (j := 0) rfl; have c3 := Hp2.out.cell (j := 1) rfl; clear P1))
    | (go_at_call 8; go_must (refine (lnewM_no k c n h w2).mono ?_); rintro e w3 ⟨rfl, hb3⟩))
  go_ret
  exact ⟨rfl, ((hbX.trans (hb1.mono hzX)).trans (hb2.mono (Nat.le_trans hzX hb1.size))).trans (hb3.mono (Nat.le_trans (Nat.le_trans hzX hb1.size) hb2.size))⟩
set_option maxHeartbeats 8000000 in
theorem cmapBatches_long (κ : Bool) (cap n : Nat) (h1 : 1 ≤ cap) (h2 : cap ≤ 16) (hn : 1 ≤ n) (hn4 : n ≤ 4) {kk : Int} (HKK : Hid (kindJ κ = kk)) (sv : Value) (is : List It) (w : World) (hs : SeesG itC 4 It.nil w sv is) (hl : 3000 < is.length) :
    Calls Try.prog 5 #[defW kk cap, .int .i64 n, sv] w fun e w' => e = .returned (.bool true) ∧ Below w.heap.size w w' := by
  obtain ⟨a, c, rfl, hc, hm, _, _⟩ := hs
  have hm' : c ≤ 9223372036854775807 := by unfold maxLen at hm; omega
  have h3I : (3000 : Int) < is.length := by omega
  obtain ⟨X, HX, hbX, HpX⟩ := def_box w kk cap
  have hzX := hbX.size
  have HNW : Hid (∀ wx, Calls Try.prog 8 #[defW kk cap, .int .i64 n] wx fun e w' => ∃ r G, e = .returned (.tuple #[.pointer (some ⟨r, 0, none⟩), .int .i64 0]) ∧ Lmo w' wx.heap.size r n cap κ kk (List.replicate n Sr.nil) G ∧ Since wx G ∧ Below wx.heap.size wx w') := fun wx => by
    have := lnewM_ok κ cap n h1 h2 hn hn4 wx
    rw [HKK.out] at this
    exact this
  have P1 : True := trivial
  go_enter Try.func5, Try.ntmps5
  go_wp2_with (first
    | (go_at_call 7; rw [HX.out]; go_must (refine (awake15_any X).mono ?_); rintro e w1 ⟨rfl, hb1⟩; go_must (have Hp1 := keepG (HpX.out.below hb1 HpX.out.lt); have c0 := Hp1.out.cell (j := 0) rfl; have c1 := Hp1.out.cell (j := 1) rfl))
    | (go_at_call 8; have hq := P1; clear hq; go_must (refine (HNW.out w1).mono ?_); rintro e w2 ⟨r, G, rfl, hL, hS, hb2⟩; go_must (have Hp2 := keepG (Hp1.out.below hb2 Hp1.out.lt); have c2 := Hp2.out.cell (j := 0) rfl; have c3 := Hp2.out.cell (j := 1) rfl; clear P1 hL hS))
    | (go_at_call 8; go_must (refine (HNW.out w2).mono ?_); rintro e w3 ⟨r3, G3, rfl, hL3, hS3, hb3⟩; go_must (clear hL3 hS3)))
  go_ret
  exact ⟨rfl, ((hbX.trans (hb1.mono hzX)).trans (hb2.mono (Nat.le_trans hzX hb1.size))).trans (hb3.mono (Nat.le_trans (Nat.le_trans hzX hb1.size) hb2.size))⟩
set_option maxHeartbeats 16000000 in
theorem cmapBatches_ok (κ : Bool) (cap n : Nat) (h1 : 1 ≤ cap) (h2 : cap ≤ 16) (hn : 1 ≤ n) (hn4 : n ≤ 4) {kk : Int} (HKK : Hid (kindJ κ = kk)) (sv : Value) (is : List It) (w : World) (hs : SeesG itC 4 It.nil w sv is) (hwf : ∀ x ∈ is, It.wf x) (hl : is.length ≤ 3000) :
    Calls Try.prog 5 #[defW kk cap, .int .i64 n, sv] w fun e w' => e = .returned (.bool true) ∧ Below w.heap.size w w' := by
  have HSS : Hid (∀ wr, Below w.heap.size w wr → SeesG itC 4 It.nil wr sv is) := fun wr hb => hs.below hb (Nat.le_refl _)
  obtain ⟨a, c, rfl, hc, hm, _, _⟩ := hs
  have hm' : c ≤ 9223372036854775807 := by unfold maxLen at hm; omega
  have h3I : ¬ (3000 : Int) < is.length := by omega
  obtain ⟨i0, hi0, hz0, hzs, hzb⟩ := info_parts infoIt
  obtain ⟨j0, hj0, hy0, hys, hyb⟩ := info_parts infoRq
  obtain ⟨l0, hl0, hw0, hws, hwb⟩ := info_parts infoPr
  obtain ⟨X, HX, hbX, HpX⟩ := def_box w kk cap
  have hzX := hbX.size
  have HNW : Hid (∀ wx, Calls Try.prog 8 #[defW kk cap, .int .i64 n] wx fun e w' => ∃ r G, e = .returned (.tuple #[.pointer (some ⟨r, 0, none⟩), .int .i64 0]) ∧ Lmo w' wx.heap.size r n cap κ kk (List.replicate n Sr.nil) G ∧ Since wx G ∧ Below wx.heap.size wx w') := fun wx => by
    have := lnewM_ok κ cap n h1 h2 hn hn4 wx
    rw [HKK.out] at this
    exact this
  obtain ⟨s0, HS0⟩ : ∃ s0, Hid (List.replicate n Sr.nil = s0) := ⟨_, rfl⟩
  obtain ⟨rs, s1, HR⟩ : ∃ rs s1, Hid (runM κ cap s0 is = (rs, s1)) := ⟨_, _, rfl⟩
  have HW0 : Hid ((walkM s0).length = 0) := by
    show _ = _
    rw [← HS0.out]
    exact walk_new n
  have HRL : Hid (rs.length = is.length) := by have := (runM_len κ cap is s0).1; rw [HR.out] at this; exact this
  have P1 : True := trivial
  go_enter Try.func5, Try.ntmps5
  go_wp2_with (first
    | (go_at_call 7; rw [HX.out]; go_must (refine (awake15_any X).mono ?_); rintro e w1 ⟨rfl, hb1⟩; go_must (have Hp1 := keepG (HpX.out.below hb1 HpX.out.lt); have c0 := Hp1.out.cell (j := 0) rfl; have c1 := Hp1.out.cell (j := 1) rfl; have hbw1 : Below w.heap.size w w1 := hbX.trans (hb1.mono hzX)))
    | (go_at_call 8; have hq := P1; clear hq; go_must (refine (HNW.out w1).mono ?_); rintro e w2 ⟨ra, Fa, rfl, hL, hS, hb2⟩; go_must (have Hp2 := keepG (Hp1.out.below hb2 Hp1.out.lt); have c2 := Hp2.out.cell (j := 0) rfl; have c3 := Hp2.out.cell (j := 1) rfl; have HL2 := keepG hL; have HS2 := keepG hS; clear P1 hL hS))
    | (go_at_call 8; go_must (refine (HNW.out w2).mono ?_); rintro e w3 ⟨rb, Fb, rfl, hL3, hS3, hb3⟩; go_must (have hm2 := M2.new h1 hbw1 HL2.out hb2.size HS2.out hb2 hL3 hb3.size hS3 hb3 h2 hn hn4; rw [HS0.out] at hm2; have HT3 := keepG hm2; obtain ⟨vi, wi, hri, hoi, hgi, hni⟩ := run_append_seesG (P := Try.prog) (w3.alloc (.cells #[] 41)) w3.heap.size 25 25 41 i0 _ 4 32 Try.underlying25 hi0 hz0 hzs hzb rfl (by decide) _ 0 [] (own_emptyT w3 _ 4) itC_len (HSS.out _ (HT3.out.below (below_allocG _ _)).be) (flat_oneI is) (by unfold maxLen; omega) (by omega) (by simp); clear hL3 hS3 hm2))
    | (at_builtin; go_must (refine wpList_appG _ rfl (.tmp 54) (.tmp 55) 25 25 rfl _ _ rfl rfl hri ?_; rw [Nat.zero_add, List.nil_append] at hoi; obtain ⟨ia, ic, rfl⟩ := own_shape hoi; have hbi : Below w3.heap.size w3 wi := (chg_append hgi).below (fun k e => by cases e; exact Nat.le_refl _) (Nat.le_refl _); have HT4 := keepG (HT3.out.below hbi); have HIN := keepG hoi; have HAP := keepG (Apt.made HT3.out.lies (own_since hoi (Nat.le_refl _))); clear hri hoi hgi hni))
    | (go_at_call 22; go_must (refine (HT4.out.batch (own_seesG itC_len It.nil HIN.out) hwf (by omega) HAP.out HR).mono ?_); rintro e w5 ⟨xv, rfl, F5, hx5, ht5, hn5⟩; go_must (have HT5 := keepG ht5; have HXR := keepG hx5; have HI5 := keepG (own_keeps HIN.out hn5.chg HAP.out); obtain ⟨xa, xc, rfl⟩ := own_shape hx5; clear hx5 ht5 hn5))
    | (go_at_call 16; go_must (refine (HT5.out.swap.lenM HW0).mono ?_); rintro e w6 ⟨rfl, rfl⟩))
  have hxlt := HXR.out.lt
  go_loopw [13, 14] (fun yv i wr => ∃ j : Nat, j ≤ is.length ∧ i = .int .i64 j ∧ Hid (wr.ownsRow w5.heap.size 37 6 yv (runM κ cap s0 (is.take j)).1.length (flatG rqC (runM κ cap s0 (is.take j)).1)) ∧ ∃ G1, Hid (M2 w wr ra rb n cap κ kk s1 (runM κ cap s0 (is.take j)).2 F5 G1) ∧ Hid (wr.ownsRow wi.heap.size 37 6 (.slice xa rs.length xc) rs.length (flatG rqC rs)) ∧ Hid (wr.ownsRow w3.heap.size 41 4 (.slice ia is.length ic) is.length (flatG itC is)) ∧ w5.heap.size ≤ wr.heap.size) (fun _ i _ => is.length - (intOf i).toNat)
  case atStart => exact ⟨0, by omega, rfl, World.ownsRow_nil _ _ _ _, Fb, HT5.out, HXR.out, HI5.out, Nat.le_refl _⟩
  case round =>
    obtain ⟨j, hj, rfl, HY, G1, HM, HXW, HIW, hzr⟩ := hrel
    rename World => wr
    obtain ⟨ya, yc, ev⟩ := own_shape HY.out
    subst ev
    by_cases hlt : j < is.length
    · have hltI : (j : Int) < is.length := by omega
      have HCC : Hid (∀ wx, Below w.heap.size w wx → ∃ g off, a = some ⟨g, off, none⟩ ∧ wx.cell? ⟨g, off + j * 4, none⟩ = some (.int .i64 (is.getD j It.nil).m) ∧ wx.cell? ⟨g, off + j * 4 + 1, none⟩ = some (.int .i64 (is.getD j It.nil).op) ∧ wx.cell? ⟨g, off + j * 4 + 2, none⟩ = some (.int .u64 (is.getD j It.nil).k) ∧ wx.cell? ⟨g, off + j * 4 + 3, none⟩ = some (.int .u64 (is.getD j It.nil).v)) := by
        intro wx hb
        obtain ⟨a', c', ev, _, _, _, hcell⟩ := HSS.out wx hb
        simp only [Value.slice.injEq, true_and] at ev
        obtain ⟨rfl, rfl⟩ := ev
        obtain ⟨g, off, rfl, hg, hat⟩ := hcell (fun e => by rw [e] at hlt; simp at hlt)
        exact ⟨g, off, rfl, hat j hlt 0 (by omega), hat j hlt 1 (by omega), hat j hlt 2 (by omega), hat j hlt 3 (by omega)⟩
      obtain ⟨g, off, rfl, d0, d1, d2, d3⟩ := HCC.out _ HM.out.be
      have HKP : Hid (∀ wx, Below w.heap.size w wx → wx.cell? ⟨g, off + j * 4, none⟩ = some (.int .i64 (is.getD j It.nil).m) ∧ wx.cell? ⟨g, off + j * 4 + 1, none⟩ = some (.int .i64 (is.getD j It.nil).op) ∧ wx.cell? ⟨g, off + j * 4 + 2, none⟩ = some (.int .u64 (is.getD j It.nil).k) ∧ wx.cell? ⟨g, off + j * 4 + 3, none⟩ = some (.int .u64 (is.getD j It.nil).v)) := by
        intro wx hb
        obtain ⟨g', off', ea, q⟩ := HCC.out wx hb
        simp only [Option.some.injEq, Addr.mk.injEq, true_and, and_true] at ea
        obtain ⟨rfl, rfl⟩ := ea
        exact q
      have hwk := hwf _ (getD_memT hlt)
      obtain ⟨x, HX0⟩ : ∃ x, Hid (is.getD j It.nil = x) := ⟨_, rfl⟩
      rw [HX0.out] at d0 d1 d2 d3 hwk HKP
      have HT : Hid (runM κ cap s0 (is.take (j + 1)) = ((runM κ cap s0 (is.take j)).1 ++ [(doM κ cap (runM κ cap s0 (is.take j)).2 x.op x.k x.v).1], (doM κ cap (runM κ cap s0 (is.take j)).2 x.op x.k x.v).2)) := by
        show _ = _
        rw [take_moreT hlt, HX0.out, runM_app]
      have hrl := (runM_len κ cap (is.take j) s0).1
      have htl := List.length_take_le j is
      obtain ⟨M, HMM⟩ : ∃ M, Hid ((runM κ cap s0 (is.take j)).1 = M) := ⟨_, rfl⟩
      obtain ⟨t1, HT1⟩ : ∃ t1, Hid ((runM κ cap s0 (is.take j)).2 = t1) := ⟨_, rfl⟩
      rw [HMM.out] at hrl
      rw [HMM.out, HT1.out] at HT
      rw [HT1.out] at HM
      rw [HMM.out] at HY ⊢
      have hMl : M.length ≤ 100000 := by omega
      clear hrl htl
      obtain ⟨q, t2, HQ⟩ : ∃ q t2, Hid (doM κ cap t1 x.op x.k x.v = (q, t2)) := ⟨_, _, rfl⟩
      rw [HQ.out] at HT
      go_wp2
      refine wp_region_held_drew (S := fun w' => w'.cell? ⟨g, off + j * 4, none⟩ = some (.int .i64 x.m) ∧ w'.cell? ⟨g, off + j * 4 + 1, none⟩ = some (.int .i64 x.op) ∧ w'.cell? ⟨g, off + j * 4 + 2, none⟩ = some (.int .u64 x.k) ∧ w'.cell? ⟨g, off + j * 4 + 3, none⟩ = some (.int .u64 x.v)) (by kernel_rfl) ⟨d0, d1, d2, d3⟩ (fun hHeld => ?_)
      refine wpAnyH_take (i := 0) (v := ?v2) rfl (by kernel_rfl) (by kernel_rfl) (by kernel_rfl) (fun _ _ _ h => h) (Or.inl ⟨by rfl, ?hy2⟩) (by assumption) ?rest2
      case hy2 => (intro wy hSw; (try dsimp only at hSw); go_simp; (first | done | with_reducible rfl))
      try simp only [Act.put, List.getElem_toArray, List.getElem_cons_zero, List.getElem_cons_succ, List.setIfInBounds_toArray, List.set_cons_zero, List.set_cons_succ]
      refine wpAnyH_take (i := 1) (v := ?v3) rfl (by kernel_rfl) (by kernel_rfl) (by kernel_rfl) (fun _ _ _ h => h) (Or.inl ⟨by rfl, ?hy3⟩) (by assumption) ?rest3
      case hy3 => (intro wy hSw; (try dsimp only at hSw); go_simp; (first | done | with_reducible rfl))
      try simp only [Act.put, List.getElem_toArray, List.getElem_cons_zero, List.getElem_cons_succ, List.setIfInBounds_toArray, List.set_cons_zero, List.set_cons_succ]
      refine wpAnyH_take (i := 2) (v := ?v4) rfl (by kernel_rfl) (by kernel_rfl) (by kernel_rfl) (fun _ _ _ h => h) (Or.inl ⟨by rfl, ?hy4⟩) (by assumption) ?rest4
      case hy4 => (intro wy hSw; (try dsimp only at hSw); go_simp; (first | done | with_reducible rfl))
      try simp only [Act.put, List.getElem_toArray, List.getElem_cons_zero, List.getElem_cons_succ, List.setIfInBounds_toArray, List.set_cons_zero, List.set_cons_succ]
      refine wpAnyH_take (i := 3) (v := ?v5) rfl (by kernel_rfl) (by kernel_rfl) (by kernel_rfl) (fun _ _ _ h => h) (Or.inl ⟨by rfl, ?hy5⟩) (by assumption) ?rest5
      case hy5 => (intro wy hSw; (try dsimp only at hSw); go_simp; (first | done | with_reducible rfl))
      try simp only [Act.put, List.getElem_toArray, List.getElem_cons_zero, List.getElem_cons_succ, List.setIfInBounds_toArray, List.set_cons_zero, List.set_cons_succ]
      refine wpAnyH_take (i := 4) (v := ?v6) rfl (by kernel_rfl) (by kernel_rfl) (by kernel_rfl) (fun _ _ _ h => h) (Or.inl ⟨by rfl, ?hy6⟩) (by assumption) ?rest6
      case hy6 => (intro wy hSw; (try dsimp only at hSw); go_simp; (first | done | with_reducible rfl))
      try simp only [Act.put, List.getElem_toArray, List.getElem_cons_zero, List.getElem_cons_succ, List.setIfInBounds_toArray, List.set_cons_zero, List.set_cons_succ]
      refine wpAnyH_take (i := 5) (v := ?v7) rfl (by kernel_rfl) (by kernel_rfl) (by kernel_rfl) (fun _ _ _ h => h) (Or.inl ⟨by rfl, ?hy7⟩) (by assumption) ?rest7
      case hy7 => (intro wy hSw; (try dsimp only at hSw); go_simp; (first | done | with_reducible rfl))
      try simp only [Act.put, List.getElem_toArray, List.getElem_cons_zero, List.getElem_cons_succ, List.setIfInBounds_toArray, List.set_cons_zero, List.set_cons_succ]
      refine wpAnyH_take (i := 6) (v := ?v8) rfl (by kernel_rfl) (by kernel_rfl) (by kernel_rfl) (fun _ _ _ h => h) (Or.inl ⟨by rfl, ?hy8⟩) (by assumption) ?rest8
      case hy8 => (intro wy hSw; (try dsimp only at hSw); go_simp; (first | done | with_reducible rfl))
      try simp only [Act.put, List.getElem_toArray, List.getElem_cons_zero, List.getElem_cons_succ, List.setIfInBounds_toArray, List.set_cons_zero, List.set_cons_succ]
      refine wpAnyH_take (i := 7) (v := ?v9) rfl (by kernel_rfl) (by kernel_rfl) (by kernel_rfl) (fun _ _ _ h => h) (Or.inl ⟨by rfl, ?hy9⟩) (by assumption) ?rest9
      case hy9 => (intro wy hSw; (try dsimp only at hSw); go_simp; (first | done | with_reducible rfl))
      try simp only [Act.put, List.getElem_toArray, List.getElem_cons_zero, List.getElem_cons_succ, List.setIfInBounds_toArray, List.set_cons_zero, List.set_cons_succ]
      refine wpAnyH_take (i := 8) (v := ?v10) rfl (by kernel_rfl) (by kernel_rfl) (by kernel_rfl) (fun _ _ _ h => h) (Or.inl ⟨by rfl, ?hy10⟩) (by assumption) ?rest10
      case hy10 => (intro wy hSw; (try dsimp only at hSw); go_simp; (first | done | with_reducible rfl))
      try simp only [Act.put, List.getElem_toArray, List.getElem_cons_zero, List.getElem_cons_succ, List.setIfInBounds_toArray, List.set_cons_zero, List.set_cons_succ]
      refine wpAnyH_take (i := 9) (v := ?v11) rfl (by kernel_rfl) (by kernel_rfl) (by kernel_rfl) (fun _ _ _ h => h) (Or.inl ⟨by rfl, ?hy11⟩) (by assumption) ?rest11
      case hy11 => (intro wy hSw; (try dsimp only at hSw); go_simp; (first | done | with_reducible rfl))
      try simp only [Act.put, List.getElem_toArray, List.getElem_cons_zero, List.getElem_cons_succ, List.setIfInBounds_toArray, List.set_cons_zero, List.set_cons_succ]
      refine wpAnyH_take (i := 10) (v := ?v12) rfl (by kernel_rfl) (by kernel_rfl) (by kernel_rfl) (fun _ _ _ h => h) (Or.inl ⟨by rfl, ?hy12⟩) (by assumption) ?rest12
      case hy12 => (intro wy hSw; (try dsimp only at hSw); go_simp; (first | done | with_reducible rfl))
      try simp only [Act.put, List.getElem_toArray, List.getElem_cons_zero, List.getElem_cons_succ, List.setIfInBounds_toArray, List.set_cons_zero, List.set_cons_succ]
      refine wpAnyH_take (i := 11) (v := ?v13) rfl (by kernel_rfl) (by kernel_rfl) (by kernel_rfl) (fun _ _ _ h => h) (Or.inl ⟨by rfl, ?hy13⟩) (by assumption) ?rest13
      case hy13 => (intro wy hSw; (try dsimp only at hSw); go_simp; (first | done | with_reducible rfl))
      try simp only [Act.put, List.getElem_toArray, List.getElem_cons_zero, List.getElem_cons_succ, List.setIfInBounds_toArray, List.set_cons_zero, List.set_cons_succ]
      refine wpAnyH_take (i := 12) (v := ?v14) rfl (by kernel_rfl) (by kernel_rfl) (by kernel_rfl) (fun _ _ _ h => h) (Or.inl ⟨by rfl, ?hy14⟩) (by assumption) ?rest14
      case hy14 => (intro wy hSw; (try dsimp only at hSw); go_simp; (first | done | with_reducible rfl))
      try simp only [Act.put, List.getElem_toArray, List.getElem_cons_zero, List.getElem_cons_succ, List.setIfInBounds_toArray, List.set_cons_zero, List.set_cons_succ]
      refine wpAnyH_take (i := 13) (v := ?v15) rfl (by kernel_rfl) (by kernel_rfl) (by kernel_rfl) (fun _ _ _ h => h) (Or.inl ⟨by rfl, ?hy15⟩) (by assumption) ?rest15
      case hy15 => (intro wy hSw; (try dsimp only at hSw); go_simp; (first | done | with_reducible rfl))
      try simp only [Act.put, List.getElem_toArray, List.getElem_cons_zero, List.getElem_cons_succ, List.setIfInBounds_toArray, List.set_cons_zero, List.set_cons_succ]
      refine wpAnyH_take (i := 14) (v := ?v16) rfl (by kernel_rfl) (by kernel_rfl) (by kernel_rfl) (fun _ _ _ h => h) (Or.inl ⟨by rfl, ?hy16⟩) (by assumption) ?rest16
      case hy16 => (intro wy hSw; (try dsimp only at hSw); go_simp; (first | done | with_reducible rfl))
      try simp only [Act.put, List.getElem_toArray, List.getElem_cons_zero, List.getElem_cons_succ, List.setIfInBounds_toArray, List.set_cons_zero, List.set_cons_succ]
      refine wpAnyH_take (i := 15) (v := ?v17) rfl (by kernel_rfl) (by kernel_rfl) (by kernel_rfl) (fun _ _ _ h => h) (Or.inl ⟨by rfl, ?hy17⟩) (by assumption) ?rest17
      case hy17 => (intro wy hSw; (try dsimp only at hSw); go_simp; (first | done | with_reducible rfl))
      try simp only [Act.put, List.getElem_toArray, List.getElem_cons_zero, List.getElem_cons_succ, List.setIfInBounds_toArray, List.set_cons_zero, List.set_cons_succ]
      refine wpAnyH_take (i := 16) (v := ?v18) rfl (by kernel_rfl) (by kernel_rfl) (by kernel_rfl) (fun _ _ _ h => h) (Or.inl ⟨by rfl, ?hy18⟩) (by assumption) ?rest18
      case hy18 => (intro wy hSw; (try dsimp only at hSw); go_simp; (first | done | with_reducible rfl))
      try simp only [Act.put, List.getElem_toArray, List.getElem_cons_zero, List.getElem_cons_succ, List.setIfInBounds_toArray, List.set_cons_zero, List.set_cons_succ]
      refine wpAnyH_ready (rs := [17]) (by kernel_rfl) (by simp) ?_
      refine AllReadyH.cons rfl (fun KK hK => ?_) AllReadyH.nil
      rw [if_pos (by rfl)]
      go_simp
      go_at_call 11
      refine ((HM.out.drewN 1).swap.do hwk HQ).mono ?_
      rintro e w7 ⟨rfl, G7, ht7, hn7⟩
      have HM7 := keepG ht7.swap
      have far : ∀ {B z n' : Nat} {t : TypeId} {v : Value} {ys : List Value}, (wr.drew).ownsRow B t z v n' ys → t ≠ 97 → t ≠ 95 → t ≠ 64 → t ≠ 35 → t ≠ 69 → t ≠ 55 → w7.ownsRow B t z v n' ys := fun ho a1 a2 a3 a4 a5 a6 => own_chg ho hn7.chg (fun k hk e => by
        obtain ⟨cs, hq⟩ := own_hpC ho hk
        exact (HM.out.drewN 1).swap.other hq a1 a2 a3 a4 a5 a6 e)
      have HY7 := keepG (far (HY.out) (by decide) (by decide) (by decide) (by decide) (by decide) (by decide))
      have HX7 := keepG (far (HXW.out) (by decide) (by decide) (by decide) (by decide) (by decide) (by decide))
      have HI7 := keepG (far (HIW.out) (by decide) (by decide) (by decide) (by decide) (by decide) (by decide))
      have hz7 : w5.heap.size ≤ w7.heap.size := Nat.le_trans hzr hn7.chg.size
      clear ht7 hn7 far
      go_simp
      refine hK.out _ _ (HKP.out w7 HM7.out.be) (fun hHeld => ?_)
      clear hK KK
      try simp only [Act.put, List.getElem_toArray, List.getElem_cons_zero, List.getElem_cons_succ, List.setIfInBounds_toArray, List.set_cons_zero, List.set_cons_succ]
      obtain ⟨Z, HZ, hbZ⟩ : ∃ Z, Hid (w7.alloc (.cells #[.int .i64 q.E, .bool q.f, .int .u64 q.v, .bool q.o, .int .u64 q.k, .int .u64 q.u] 37) = Z) ∧ Below w7.heap.size w7 Z := ⟨_, rfl, below_allocG _ _⟩
      have hlit : SeesG rqC 6 Rq.nil Z (.slice (some ⟨w7.heap.size, 0, none⟩) 1 1) [q] := by rw [← HZ.out]; exact SeesG.lit rqC_len Rq.nil w7 37 [q] _ 1 rfl rfl (by simp)
      obtain ⟨v8, w8, hr8, ho8, hg8, _⟩ := run_append_seesG (f := rqC) (d := Rq.nil) (P := Try.prog) Z w5.heap.size 61 61 37 j0 _ 6 48 Try.underlying61 hj0 hy0 hys hyb rfl (by decide) (.slice ya M.length yc) M.length (flatG rqC M) (own_below HY7.out hbZ (Nat.le_refl _)) rqC_len hlit (by intro u hu; rw [flatG_one] at hu; exact rqC_one q u hu) (by unfold maxLen; simp; omega) (by simp; omega) (by have := hbZ.size; omega)
      have hc8 : Chg w7 w8 (fun k => (Value.slice ya M.length yc).ownBlock = some k) := by
        rw [← HZ.out] at hg8
        exact chg_append hg8
      have hylt := HY7.out.lt
      have HM8 := keepG (HM7.out.chg hc8 (fun k e1 e2 => by
        obtain ⟨cs, hq⟩ := own_hpC HY7.out e1
        exact HM7.out.other hq (by decide) (by decide) (by decide) (by decide) (by decide) (by decide) e2) (fun k e1 e2 => by
        obtain ⟨cs, hq⟩ := own_hpC HY7.out e1
        exact HM7.out.swap.other hq (by decide) (by decide) (by decide) (by decide) (by decide) (by decide) e2) (fun k e => by have h8 := (hylt k e).1; have h9 := HT5.out.be.size; omega))
      have HX8 := keepG (own_chg HX7.out hc8 (fun k hk e => by have h8 := (hxlt k hk).2; have h9 := (hylt k e).1; omega))
      have HI8 := keepG (own_chg HI7.out hc8 (fun k hk e => own_twoG HI7.out HY7.out (by decide) k hk e))
      have hz8 : w5.heap.size ≤ w8.heap.size := Nat.le_trans hz7 hc8.size
      have HR8 := keepG hr8
      have HO8 := keepG ho8
      have HS8 := keepG (HKP.out w8 HM8.out.be)
      clear hr8 ho8 hg8 hc8 hlit hylt
      refine wpAnyH_ready (rs := [18]) (by kernel_rfl) (by simp) ?_
      refine AllReadyH.cons rfl (fun KK hK => ?_) AllReadyH.nil
      rw [if_pos (by rfl)]
      go_simp
      rw [HZ.out]
      refine hK.out _ _ (HKP.out Z (HM7.out.be.trans (hbZ.mono HM7.out.be.size))) (fun hHeld => ?_)
      clear hK KK
      try simp only [Act.put, List.getElem_toArray, List.getElem_cons_zero, List.getElem_cons_succ, List.setIfInBounds_toArray, List.set_cons_zero, List.set_cons_succ]
      refine wpAnyH_ready (rs := [19]) (by kernel_rfl) (by simp) ?_
      refine AllReadyH.cons rfl (fun KK hK => ?_) AllReadyH.nil
      rw [if_pos (by rfl)]
      refine wp_appG _ (.tmp 69) (.tmp 87) 61 61 rfl _ _ rfl rfl HR8.out ?_
      refine hK.out _ _ HS8.out (fun hHeld => ?_)
      clear hK KK
      try simp only [Act.put, List.getElem_toArray, List.getElem_cons_zero, List.getElem_cons_succ, List.setIfInBounds_toArray, List.set_cons_zero, List.set_cons_succ]
      refine wpAnyH_take (i := 20) (v := ?v1) rfl (by kernel_rfl) (by kernel_rfl) (by kernel_rfl) (fun _ _ _ h => h) (Or.inl ⟨by rfl, ?hy1⟩) (by assumption) ?rest1
      case hy1 => (intro wy hSw; (try dsimp only at hSw); go_simp; (first | done | with_reducible rfl))
      try simp only [Act.put, List.getElem_toArray, List.getElem_cons_zero, List.getElem_cons_succ, List.setIfInBounds_toArray, List.set_cons_zero, List.set_cons_succ]
      refine wpAnyH_done (by kernel_rfl) ?_ _
      obtain ⟨va8, vc8, rfl⟩ := own_shape HO8.out
      obtain ⟨gi, ci, ev, _, hgi, _, _, hati⟩ := own_atG itC_len It.nil HI8.out (by omega)
      simp only [Value.slice.injEq, true_and] at ev
      obtain ⟨rfl, rfl⟩ := ev
      have e0 := (hati j hlt 0 (by omega)).1
      have e1 := (hati j hlt 1 (by omega)).1
      have e2 := (hati j hlt 2 (by omega)).1
      have e3 := (hati j hlt 3 (by omega)).1
      simp only [List.getElem?_cons_zero, List.getElem?_cons_succ, Nat.add_zero] at e0 e1 e2 e3
      rw [HX0.out] at e0 e1 e2 e3
      clear hati d0 d1 d2 d3
      obtain ⟨d0, d1, d2, d3⟩ := HS8.out
      go_wp2
      refine wp_region_held_drew (S := fun w' => (w'.cell? ⟨g, off + j * 4, none⟩ = some (.int .i64 x.m) ∧ w'.cell? ⟨g, off + j * 4 + 1, none⟩ = some (.int .i64 x.op) ∧ w'.cell? ⟨g, off + j * 4 + 2, none⟩ = some (.int .u64 x.k) ∧ w'.cell? ⟨g, off + j * 4 + 3, none⟩ = some (.int .u64 x.v)) ∧ w'.cell? ⟨gi, j * 4, none⟩ = some (.int .i64 x.m) ∧ w'.cell? ⟨gi, j * 4 + 1, none⟩ = some (.int .i64 x.op) ∧ w'.cell? ⟨gi, j * 4 + 2, none⟩ = some (.int .u64 x.k) ∧ w'.cell? ⟨gi, j * 4 + 3, none⟩ = some (.int .u64 x.v)) (by kernel_rfl) ⟨⟨d0, d1, d2, d3⟩, e0, e1, e2, e3⟩ (fun hHeld => ?_)
      refine wpAnyH_take (i := 0) (v := ?v19) rfl (by kernel_rfl) (by kernel_rfl) (by kernel_rfl) (fun _ _ _ h => h) (Or.inl ⟨by rfl, ?hy19⟩) (by assumption) ?rest19
      case hy19 => (intro wy hSw; (try dsimp only at hSw); go_simp; (first | done | with_reducible rfl))
      try simp only [Act.put, List.getElem_toArray, List.getElem_cons_zero, List.getElem_cons_succ, List.setIfInBounds_toArray, List.set_cons_zero, List.set_cons_succ]
      refine wpAnyH_take (i := 1) (v := ?v20) rfl (by kernel_rfl) (by kernel_rfl) (by kernel_rfl) (fun _ _ _ h => h) (Or.inl ⟨by rfl, ?hy20⟩) (by assumption) ?rest20
      case hy20 => (intro wy hSw; (try dsimp only at hSw); go_simp; (first | done | with_reducible rfl))
      try simp only [Act.put, List.getElem_toArray, List.getElem_cons_zero, List.getElem_cons_succ, List.setIfInBounds_toArray, List.set_cons_zero, List.set_cons_succ]
      refine wpAnyH_take (i := 2) (v := ?v21) rfl (by kernel_rfl) (by kernel_rfl) (by kernel_rfl) (fun _ _ _ h => h) (Or.inl ⟨by rfl, ?hy21⟩) (by assumption) ?rest21
      case hy21 => (intro wy hSw; (try dsimp only at hSw); go_simp; (first | done | with_reducible rfl))
      try simp only [Act.put, List.getElem_toArray, List.getElem_cons_zero, List.getElem_cons_succ, List.setIfInBounds_toArray, List.set_cons_zero, List.set_cons_succ]
      refine wpAnyH_take (i := 3) (v := ?v22) rfl (by kernel_rfl) (by kernel_rfl) (by kernel_rfl) (fun _ _ _ h => h) (Or.inl ⟨by rfl, ?hy22⟩) (by assumption) ?rest22
      case hy22 => (intro wy hSw; (try dsimp only at hSw); go_simp; (first | done | with_reducible rfl))
      try simp only [Act.put, List.getElem_toArray, List.getElem_cons_zero, List.getElem_cons_succ, List.setIfInBounds_toArray, List.set_cons_zero, List.set_cons_succ]
      refine wpAnyH_take (i := 4) (v := ?v23) rfl (by kernel_rfl) (by kernel_rfl) (by kernel_rfl) (fun _ _ _ h => h) (Or.inl ⟨by rfl, ?hy23⟩) (by assumption) ?rest23
      case hy23 => (intro wy hSw; (try dsimp only at hSw); go_simp; (first | done | with_reducible rfl))
      try simp only [Act.put, List.getElem_toArray, List.getElem_cons_zero, List.getElem_cons_succ, List.setIfInBounds_toArray, List.set_cons_zero, List.set_cons_succ]
      refine wpAnyH_take (i := 5) (v := ?v24) rfl (by kernel_rfl) (by kernel_rfl) (by kernel_rfl) (fun _ _ _ h => h) (Or.inl ⟨by rfl, ?hy24⟩) (by assumption) ?rest24
      case hy24 => (intro wy hSw; (try dsimp only at hSw); go_simp; (first | done | with_reducible rfl))
      try simp only [Act.put, List.getElem_toArray, List.getElem_cons_zero, List.getElem_cons_succ, List.setIfInBounds_toArray, List.set_cons_zero, List.set_cons_succ]
      refine wpAnyH_take (i := 6) (v := ?v25) rfl (by kernel_rfl) (by kernel_rfl) (by kernel_rfl) (fun _ _ _ h => h) (Or.inl ⟨by rfl, ?hy25⟩) (by assumption) ?rest25
      case hy25 => (intro wy hSw; (try dsimp only at hSw); go_simp; (first | done | with_reducible rfl))
      try simp only [Act.put, List.getElem_toArray, List.getElem_cons_zero, List.getElem_cons_succ, List.setIfInBounds_toArray, List.set_cons_zero, List.set_cons_succ]
      refine wpAnyH_take (i := 7) (v := ?v26) rfl (by kernel_rfl) (by kernel_rfl) (by kernel_rfl) (fun _ _ _ h => h) (Or.inl ⟨by rfl, ?hy26⟩) (by assumption) ?rest26
      case hy26 => (intro wy hSw; (try dsimp only at hSw); go_simp; (first | done | with_reducible rfl))
      try simp only [Act.put, List.getElem_toArray, List.getElem_cons_zero, List.getElem_cons_succ, List.setIfInBounds_toArray, List.set_cons_zero, List.set_cons_succ]
      refine wpAnyH_take (i := 8) (v := ?v27) rfl (by kernel_rfl) (by kernel_rfl) (by kernel_rfl) (fun _ _ _ h => h) (Or.inl ⟨by rfl, ?hy27⟩) (by assumption) ?rest27
      case hy27 => (intro wy hSw; (try dsimp only at hSw); go_simp; (first | done | with_reducible rfl))
      try simp only [Act.put, List.getElem_toArray, List.getElem_cons_zero, List.getElem_cons_succ, List.setIfInBounds_toArray, List.set_cons_zero, List.set_cons_succ]
      refine wpAnyH_done (by kernel_rfl) ?_ _
      have eM : (M ++ [q]).length = M.length + [q].length := List.length_append
      have HO9 : Hid (w8.drew.ownsRow w5.heap.size 37 6 (.slice va8 (M.length + [q].length) vc8) (runM κ cap s0 (is.take (j + 1))).1.length (flatG rqC (runM κ cap s0 (is.take (j + 1))).1)) := by
        rw [HT.out]
        show World.ownsRow _ _ _ _ _ _ _
        rw [eM, flatG_app]
        exact HO8.out
      have HM9 : Hid (M2 w w8.drew ra rb n cap κ kk s1 (runM κ cap s0 (is.take (j + 1))).2 F5 G7) := by
        rw [HT.out]
        exact HM8.out.drewN 1
      have HX9 : Hid (w8.drew.ownsRow wi.heap.size 37 6 (.slice xa rs.length xc) rs.length (flatG rqC rs)) := HX8.out
      have HI9 : Hid (w8.drew.ownsRow w3.heap.size 41 4 (.slice (some ⟨gi, 0, none⟩) is.length ic) is.length (flatG itC is)) := HI8.out
      go_wp2
      first
        | (go_roundw
           case rel => exact ⟨j + 1, by omega, by go_num, HO9, G7, HM9, HX9, HI9, hz8⟩
           case measure => simp [intOf]; omega)
        | exact ⟨⟨j + 1, by omega, by go_num, HO9, G7, HM9, HX9, HI9, hz8⟩, by simp [intOf]; omega⟩
    · have hltI : ¬ (j : Int) < is.length := by omega
      have hT : is.take j = is := List.take_of_length_le (by omega)
      have HR1 : Hid ((runM κ cap s0 (is.take j)).1 = rs) := by show _ = _; rw [hT, HR.out]
      have HR2 : Hid ((runM κ cap s0 (is.take j)).2 = s1) := by show _ = _; rw [hT, HR.out]
      rw [HR1.out] at HY ⊢
      rw [HR2.out] at HM
      clear hT
      obtain ⟨W, HW⟩ : ∃ W, Hid (walkM s1 = W) := ⟨_, rfl⟩
      have hW64 : W.length ≤ 64 := by rw [← HW.out]; exact HM.out.walk64
      have HWL : Hid ((walkM s1).length = W.length) := by show _ = _; rw [HW.out]
      go_wp2_with (go_at_call 15; go_must (refine (HM.out.walk HW).mono ?_); rintro e wx ⟨ux, rfl, hux, hbx⟩; go_must (have HUX := keepG hux; obtain ⟨pa, pc, rfl⟩ := own_shape hux; clear hux))
      go_loopw [16] (fun i wr3 => ∃ q : Nat, q ≤ W.length ∧ i = .int .i64 q ∧ (∃ L : List Pp, L.length = W.length ∧ Hid (wr3.ownsRow wr.heap.size 64 2 (.slice pa W.length pc) L.length (flatG ppC L))) ∧ Below wr.heap.size wr wr3) (fun i _ => W.length - (intOf i).toNat)
      case atStart => exact ⟨0, by omega, rfl, ⟨W, rfl, HUX.out⟩, hbx⟩
      case round =>
        obtain ⟨q, hq, rfl, ⟨L, hL, HO⟩, hbw⟩ := hrel
        rename World => wv
        have hzw := hbw.size
        by_cases hlt2 : q < W.length
        · have hlt2I : (q : Int) < W.length := by omega
          rw [← hL] at HO
          obtain ⟨g8, c8, ev8, hgB, hgw, hgc, hcm, hat8⟩ := own_atG ppC_len Pp.nil HO.out (by omega)
          simp only [Value.slice.injEq, true_and] at ev8
          obtain ⟨rfl, rfl⟩ := ev8
          have d0 := hat8 q (by omega) 0 (by omega)
          have d1 := hat8 q (by omega) 1 (by omega)
          simp only [List.getElem?_cons_zero, List.getElem?_cons_succ, Nat.add_zero] at d0 d1
          obtain ⟨d0, f0⟩ := d0
          obtain ⟨d1, f1⟩ := d1
          have HS2 := keepG (own_setPairC ⟨7777, 0⟩ HO.out (i := q) (by omega))
          clear hat8
          go_wp2
          go_roundw
          case rel => exact ⟨q + 1, by omega, by go_num, ⟨L.set q ⟨7777, 0⟩, by simpa using hL, by have hh := HS2.out.1; rw [hL] at hh; exact hh⟩, hbw.trans (HS2.out.2.below (fun k e => by omega) hzw)⟩
          case measure => simp [intOf]; omega
        · have hlt2I : ¬ (q : Int) < W.length := by omega
          rw [← hL] at HO
          have hX16 : L.length ≤ 64 := by omega
          have hXI : (L.length : Int) = (W.length : Int) := by omega
          have hXw : IntKind.i64.wrap ((W.length : Int) + 1) = (W.length : Int) + 1 := by rw [IntKind.wrap_i64]; omega
          have P6 : True := trivial
          go_wp2_with (first
            | (at_builtin; go_must (refine wpList_append_own_at _ rfl (.tmp 110) (.tmp 112) 43 rfl wr.heap.size 64 l0 _ 2 16 Try.underlying43 hl0 hw0 hws hwb rfl (by decide) _ L.length (flatG ppC L) (by rw [hL]; rfl) (HO.out.alloc _) ⟨_, 0, none⟩ 1 1 (ppC ⟨0, 0⟩) rfl rfl (cells_new wv (ppC ⟨0, 0⟩) _ _ rfl) (pp_oneC ⟨0, 0⟩) (by unfold maxLen; omega) (by omega) (by simp; omega) ?_); intro v' w' hown hgr _ hnew; go_must (obtain ⟨va, vc, rfl⟩ := own_shape hown; have hbw2 : Below wr.heap.size wr w' := hbw.trans ((chg_append hgr).below (fun k e => (HO.out.lt k e).1) hzw); have HTa := keepG (HM.out.below hbw2); have HXa := keepG ((own_seesG rqC_len Rq.nil HXW.out).below hbw2 (Nat.le_refl _)); have HYa := keepG ((own_seesG rqC_len Rq.nil HY.out).below hbw2 (Nat.le_refl _)); clear hown hgr hnew))
            | (go_at_call 23; go_must (refine (wres15 HXa.out HYa.out).mono ?_); rintro e wb ⟨rfl, mb, rfl⟩; go_must (have HTb := keepG (HTa.out.drewN mb)))
            | (go_at_call 15; have hq := P6; clear hq; go_must (refine (HTb.out.walk HW).mono ?_); rintro e wc ⟨uc, rfl, huc, hbc⟩; go_must (have HTc := keepG (HTb.out.below hbc); have HUc := keepG (own_seesG ppC_len Pp.nil huc); clear huc P6))
            | (go_at_call 15; go_must (refine (HTc.out.swap.walk HW).mono ?_); rintro e wd ⟨ud, rfl, hud, hbd⟩; go_must (have HTd := keepG (HTc.out.below hbd); have HUd := keepG (own_seesG ppC_len Pp.nil hud); have HVd := keepG (HUc.out.below hbd (Nat.le_refl _)); clear hud))
            | (go_at_call 14; go_must (refine (wpairs15 HVd.out HUd.out).mono ?_); rintro e we ⟨rfl, me, rfl⟩; go_must (have HTe := keepG (HTd.out.drewN me)))
            | (go_at_call 22; go_must (refine (HTe.out.batch (is := []) (rs := []) (s' := s1) (SeesG.nil It.nil _) (fun x hx => by cases hx) (by simp) (fun k _ e => by cases e) (show Hid _ from rfl)).mono ?_); rintro e wf ⟨uf, rfl, Ff, huf, htf, _⟩; go_must (have HTf := keepG htf; obtain ⟨fa, fc, rfl⟩ := own_shape huf; clear htf huf))
            | (go_at_call 16; go_must (refine (HTf.out.lenM HWL).mono ?_); rintro e wg ⟨rfl, rfl⟩))
          go_ret
          exact ⟨rfl, HTf.out.be⟩
/-- CmapBatches. -/
theorem cmapBatches_walk (k c n : Int) (sv : Value) (is : List It) (w : World) {P0 : Prop} (_ : P0) (hs : SeesG itC 4 It.nil w sv is) (hwf : ∀ x ∈ is, It.wf x) (_ : is.length * 32 ≤ 140737488351232) :
    Calls Try.prog 5 #[defW k c, .int .i64 n, sv] w fun e w' => e = .returned (.bool true) ∧ Below w.heap.size w w' := by
  by_cases h : (n < 1 ∨ 4 < n) ∨ defNoL k c
  · exact cmapBatches_no k c n sv w h
  · unfold defNoL at h
    obtain ⟨m, rfl⟩ : ∃ m : Nat, n = m := ⟨n.toNat, by omega⟩
    obtain ⟨cap, rfl⟩ : ∃ cap : Nat, c = cap := ⟨c.toNat, by omega⟩
    obtain ⟨κ, HK⟩ : ∃ κ : Bool, Hid (kindJ κ = k) := by
      by_cases h0 : k = 0
      · exact ⟨false, h0.symm⟩
      · exact ⟨true, show (1 : Int) = k by omega⟩
    by_cases hl : 3000 < is.length
    · exact cmapBatches_long κ cap m (by omega) (by omega) (by omega) (by omega) HK sv is w hs hl
    · exact cmapBatches_ok κ cap m (by omega) (by omega) (by omega) (by omega) HK sv is w hs hwf (by omega)
end Go.Proofs.Ytinoelooccmmnaa
namespace Go.Proofs.Ytinoelooccmmnaa
open Go.RowKit
set_option linter.unusedVariables false
set_option linter.unusedSimpArgs false
set_option maxRecDepth 100000

theorem cmapPlays_no (k c n : Int) (sv : Value) (w : World) (h : (n < 1 ∨ 4 < n) ∨ defNoL k c) :
    Calls Try.prog 3 #[defW k c, .int .i64 n, sv] w fun e w' => e = .returned (.bool true) ∧ Below w.heap.size w w' := by
  obtain ⟨X, HX, hbX, HpX⟩ := def_box w k c
  have hzX := hbX.size
  go_enter Try.func3, Try.ntmps3
  go_wp2_with (first
    | (go_at_call 7; rw [HX.out]; go_must (refine (awake15_any X).mono ?_); rintro e w1 ⟨rfl, hb1⟩; go_must (have Hp1 := keepG (HpX.out.below hb1 HpX.out.lt); have c0 := Hp1.out.cell (j := 0) rfl; have c1 := Hp1.out.cell (j := 1) rfl))
    | (go_at_call 8; go_must (refine (lnewM_no k c n h w1).mono ?_); rintro e w2 ⟨rfl, hb2⟩; go_must (have Hp2 := keepG (Hp1.out.below hb2 Hp1.out.lt); have c2 := Hp2.out.cell (j := 0) rfl; have c3 := Hp2.out.cell (j := 1) rfl))
    | (go_at_call 9; go_must (refine (dnew_no k c n h w2).mono ?_); rintro e w3 ⟨rfl, hb3⟩))
  go_ret
  exact ⟨rfl, ((hbX.trans (hb1.mono hzX)).trans (hb2.mono (Nat.le_trans hzX hb1.size))).trans (hb3.mono (Nat.le_trans (Nat.le_trans hzX hb1.size) hb2.size))⟩
set_option maxHeartbeats 16000000 in
theorem cmapPlays_ok (κ : Bool) (cap n : Nat) (h1 : 1 ≤ cap) (h2 : cap ≤ 16) (hn : 1 ≤ n) (hn4 : n ≤ 4) {kk : Int} (HKK : Hid (kindJ κ = kk)) (sv : Value) (is : List It) (w : World) (hs : SeesG itC 4 It.nil w sv is) (hwf : ∀ x ∈ is, It.wf x) (hlen : is.length ≤ 4611686018427387904) :
    Calls Try.prog 3 #[defW kk cap, .int .i64 n, sv] w fun e w' => e = .returned (.bool true) ∧ Below w.heap.size w w' := by
  have HSS : Hid (∀ wr, Below w.heap.size w wr → SeesG itC 4 It.nil wr sv is) := fun wr hb => hs.below hb (Nat.le_refl _)
  obtain ⟨a, c, rfl, hc, hm, _, _⟩ := hs
  have hm' : c ≤ 9223372036854775807 := by unfold maxLen at hm; omega
  obtain ⟨X, HX, hbX, HpX⟩ := def_box w kk cap
  have hzX := hbX.size
  have HNW : Hid (∀ wx, Calls Try.prog 8 #[defW kk cap, .int .i64 n] wx fun e w' => ∃ r G, e = .returned (.tuple #[.pointer (some ⟨r, 0, none⟩), .int .i64 0]) ∧ Lmo w' wx.heap.size r n cap κ kk (List.replicate n Sr.nil) G ∧ Since wx G ∧ Below wx.heap.size wx w') := fun wx => by
    have := lnewM_ok κ cap n h1 h2 hn hn4 wx
    rw [HKK.out] at this
    exact this
  have HDW : Hid (∀ wx, Calls Try.prog 9 #[defW kk cap, .int .i64 n] wx fun e w' => ∃ r G, e = .returned (.tuple #[.pointer (some ⟨r, 0, none⟩), .int .i64 0]) ∧ Dmo w' wx.heap.size r n cap κ (List.replicate n Lt.nil) G ∧ Since wx G ∧ Below wx.heap.size wx w') := fun wx => by
    have := dnew_ok κ cap n h1 h2 hn hn4 wx
    rw [show kindI κ = kk from HKK.out] at this
    exact this
  have HCV : Hid (InvDm κ cap n 0 (List.replicate n Lt.nil) (List.replicate n Sr.nil)) := InvDm.new h1
  obtain ⟨t0, HT0⟩ : ∃ t0, Hid (List.replicate n Sr.nil = t0) := ⟨_, rfl⟩
  obtain ⟨u0, HU0⟩ : ∃ u0, Hid (List.replicate n Lt.nil = u0) := ⟨_, rfl⟩
  rw [HT0.out, HU0.out] at HCV
  go_enter Try.func3, Try.ntmps3
  go_wp2_with (first
    | (go_at_call 7; rw [HX.out]; go_must (refine (awake15_any X).mono ?_); rintro e w1 ⟨rfl, hb1⟩; go_must (have Hp1 := keepG (HpX.out.below hb1 HpX.out.lt); have c0 := Hp1.out.cell (j := 0) rfl; have c1 := Hp1.out.cell (j := 1) rfl; have hbw1 : Below w.heap.size w w1 := hbX.trans (hb1.mono hzX)))
    | (go_at_call 8; go_must (refine (HNW.out w1).mono ?_); rintro e w2 ⟨l, Fa, rfl, hL, hS, hb2⟩; go_must (have Hp2 := keepG (Hp1.out.below hb2 Hp1.out.lt); have c2 := Hp2.out.cell (j := 0) rfl; have c3 := Hp2.out.cell (j := 1) rfl; have HL2 := keepG hL; have HS2 := keepG hS; clear hL hS))
    | (go_at_call 9; go_must (refine (HDW.out w2).mono ?_); rintro e w3 ⟨r, Fb, rfl, hL3, hS3, hb3⟩; go_must (have Hp3 := keepG (Hp2.out.below hb3 Hp2.out.lt); have c4 := Hp3.out.cell (j := 0) rfl; have c5 := Hp3.out.cell (j := 1) rfl; have HT3 := keepG (Pm.new hbw1 HL2.out hb2.size HS2.out hb2 hL3 hb3.size hS3 hb3 h2 hn hn4); clear hL3 hS3)))
  rw [HT0.out, HU0.out] at HT3
  refine wp_region_held_drew (S := fun w' => w'.cell? ⟨w.heap.size, 0, none⟩ = some (.int .i64 kk) ∧ w'.cell? ⟨w.heap.size, 1, none⟩ = some (.int .i64 cap)) (by kernel_rfl) ⟨c4, c5⟩ (fun hHeld => ?_)
  refine wpAnyH_take (i := 0) (v := ?v2) rfl (by kernel_rfl) (by kernel_rfl) (by kernel_rfl) (fun _ _ _ h => h) (Or.inl ⟨by rfl, ?hy2⟩) (by assumption) ?rest2
  case hy2 => (intro wy hSw; (try dsimp only at hSw); go_simp; (first | done | with_reducible rfl))
  try simp only [Act.put, List.getElem_toArray, List.getElem_cons_zero, List.getElem_cons_succ, List.setIfInBounds_toArray, List.set_cons_zero, List.set_cons_succ]
  refine wpAnyH_take (i := 1) (v := ?v3) rfl (by kernel_rfl) (by kernel_rfl) (by kernel_rfl) (fun _ _ _ h => h) (Or.inl ⟨by rfl, ?hy3⟩) (by assumption) ?rest3
  case hy3 => (intro wy hSw; (try dsimp only at hSw); go_simp; (first | done | with_reducible rfl))
  try simp only [Act.put, List.getElem_toArray, List.getElem_cons_zero, List.getElem_cons_succ, List.setIfInBounds_toArray, List.set_cons_zero, List.set_cons_succ]
  refine wpAnyH_take (i := 2) (v := ?v4) rfl (by kernel_rfl) (by kernel_rfl) (by kernel_rfl) (fun _ _ _ h => h) (Or.inl ⟨by rfl, ?hy4⟩) (by assumption) ?rest4
  case hy4 => (intro wy hSw; (try dsimp only at hSw); go_simp; (first | done | with_reducible rfl))
  try simp only [Act.put, List.getElem_toArray, List.getElem_cons_zero, List.getElem_cons_succ, List.setIfInBounds_toArray, List.set_cons_zero, List.set_cons_succ]
  refine wpAnyH_take (i := 3) (v := ?v5) rfl (by kernel_rfl) (by kernel_rfl) (by kernel_rfl) (fun _ _ _ h => h) (Or.inl ⟨by rfl, ?hy5⟩) (by assumption) ?rest5
  case hy5 => (intro wy hSw; (try dsimp only at hSw); go_simp; (first | done | with_reducible rfl))
  try simp only [Act.put, List.getElem_toArray, List.getElem_cons_zero, List.getElem_cons_succ, List.setIfInBounds_toArray, List.set_cons_zero, List.set_cons_succ]
  refine wpAnyH_take (i := 4) (v := ?v6) rfl (by kernel_rfl) (by kernel_rfl) (by kernel_rfl) (fun _ _ _ h => h) (Or.inl ⟨by rfl, ?hy6⟩) (by assumption) ?rest6
  case hy6 => (intro wy hSw; (try dsimp only at hSw); go_simp; (first | done | with_reducible rfl))
  try simp only [Act.put, List.getElem_toArray, List.getElem_cons_zero, List.getElem_cons_succ, List.setIfInBounds_toArray, List.set_cons_zero, List.set_cons_succ]
  refine wpAnyH_take (i := 5) (v := ?v7) rfl (by kernel_rfl) (by kernel_rfl) (by kernel_rfl) (fun _ _ _ h => h) (Or.inl ⟨by rfl, ?hy7⟩) (by assumption) ?rest7
  case hy7 => (intro wy hSw; (try dsimp only at hSw); go_simp; (first | done | with_reducible rfl))
  try simp only [Act.put, List.getElem_toArray, List.getElem_cons_zero, List.getElem_cons_succ, List.setIfInBounds_toArray, List.set_cons_zero, List.set_cons_succ]
  refine wpAnyH_take (i := 6) (v := ?v8) rfl (by kernel_rfl) (by kernel_rfl) (by kernel_rfl) (fun _ _ _ h => h) (Or.inl ⟨by rfl, ?hy8⟩) (by assumption) ?rest8
  case hy8 => (intro wy hSw; (try dsimp only at hSw); go_simp; (first | done | with_reducible rfl))
  try simp only [Act.put, List.getElem_toArray, List.getElem_cons_zero, List.getElem_cons_succ, List.setIfInBounds_toArray, List.set_cons_zero, List.set_cons_succ]
  refine wpAnyH_take (i := 7) (v := ?v9) rfl (by kernel_rfl) (by kernel_rfl) (by kernel_rfl) (fun _ _ _ h => h) (Or.inl ⟨by rfl, ?hy9⟩) (by assumption) ?rest9
  case hy9 => (intro wy hSw; (try dsimp only at hSw); go_simp; (first | done | with_reducible rfl))
  try simp only [Act.put, List.getElem_toArray, List.getElem_cons_zero, List.getElem_cons_succ, List.setIfInBounds_toArray, List.set_cons_zero, List.set_cons_succ]
  refine wpAnyH_take (i := 9) (v := ?v10) rfl (by kernel_rfl) (by kernel_rfl) (by kernel_rfl) (fun _ _ _ h => h) (Or.inl ⟨by rfl, ?hy10⟩) (by assumption) ?rest10
  case hy10 => (intro wy hSw; (try dsimp only at hSw); go_simp; (first | done | with_reducible rfl))
  try simp only [Act.put, List.getElem_toArray, List.getElem_cons_zero, List.getElem_cons_succ, List.setIfInBounds_toArray, List.set_cons_zero, List.set_cons_succ]
  refine wpAnyH_ready (rs := [8]) (by kernel_rfl) (by simp) ?_
  refine AllReadyH.cons rfl (fun KK hK => ?_) AllReadyH.nil
  rw [if_pos (by rfl)]
  go_simp
  go_at_call 10
  have hdef : Calls Try.prog 10 #[.pointer (some ⟨l, 0, none⟩)] w3.drew fun e w' => e = .returned (defW kk cap) ∧ Below w3.drew.heap.size w3.drew w' := by
    obtain ⟨B, C, F, G, g1, g2, g3, g4, g5⟩ := (HT3.out.drewN 1).ex
    exact g3.defM
  refine hdef.mono ?_
  clear hdef
  rintro e w4 ⟨rfl, hb4⟩
  have HT4 := keepG ((HT3.out.drewN 1).below hb4)
  have e4 := (Hp3.out.drew.below hb4 Hp3.out.lt).cell (j := 0) rfl
  have e5 := (Hp3.out.drew.below hb4 Hp3.out.lt).cell (j := 1) rfl
  go_simp
  refine hK.out _ _ ⟨e4, e5⟩ (fun hHeld => ?_)
  clear hK KK
  try simp only [Act.put, List.getElem_toArray, List.getElem_cons_zero, List.getElem_cons_succ, List.setIfInBounds_toArray, List.set_cons_zero, List.set_cons_succ]
  refine wpAnyH_take (i := 10) (v := ?v11) rfl (by kernel_rfl) (by kernel_rfl) (by kernel_rfl) (fun _ _ _ h => h) (Or.inl ⟨by rfl, ?hy11⟩) (by assumption) ?rest11
  case hy11 => (intro wy hSw; (try dsimp only at hSw); go_simp; (first | done | with_reducible rfl))
  try simp only [Act.put, List.getElem_toArray, List.getElem_cons_zero, List.getElem_cons_succ, List.setIfInBounds_toArray, List.set_cons_zero, List.set_cons_succ]
  refine wpAnyH_take (i := 11) (v := ?v12) rfl (by kernel_rfl) (by kernel_rfl) (by kernel_rfl) (fun _ _ _ h => h) (Or.inl ⟨by rfl, ?hy12⟩) (by assumption) ?rest12
  case hy12 => (intro wy hSw; (try dsimp only at hSw); go_simp; (first | done | with_reducible rfl))
  try simp only [Act.put, List.getElem_toArray, List.getElem_cons_zero, List.getElem_cons_succ, List.setIfInBounds_toArray, List.set_cons_zero, List.set_cons_succ]
  refine wpAnyH_done (by kernel_rfl) ?_ _
  go_wp2
  go_loopw [11] (fun i wr => ∃ j : Nat, j ≤ is.length ∧ i = .int .i64 j ∧ ∃ ts st, Hid (Pm w wr l r n cap κ kk ts st) ∧ Hid (InvDm κ cap n j st ts) ∧ j ≤ 3000) (fun i _ => is.length - (intOf i).toNat)
  case atStart => exact ⟨0, by omega, rfl, t0, u0, HT4.out, HCV.out, by omega⟩
  case round =>
    obtain ⟨j, hj, rfl, ts, st, HM, HV, hj3⟩ := hrel
    rename World => wr
    by_cases hno : j < is.length ∧ j < 3000
    · obtain ⟨hlt, h3000⟩ := hno
      have hltI : (j : Int) < is.length := by omega
      have h3I : (j : Int) < 3000 := by omega
      have HCC : Hid (∀ wx, Below w.heap.size w wx → ∃ g off, a = some ⟨g, off, none⟩ ∧ wx.cell? ⟨g, off + j * 4 + 1, none⟩ = some (.int .i64 (is.getD j It.nil).op) ∧ wx.cell? ⟨g, off + j * 4 + 2, none⟩ = some (.int .u64 (is.getD j It.nil).k) ∧ wx.cell? ⟨g, off + j * 4 + 3, none⟩ = some (.int .u64 (is.getD j It.nil).v)) := by
        intro wx hb
        obtain ⟨a', c', ev, _, _, _, hcell⟩ := HSS.out wx hb
        simp only [Value.slice.injEq, true_and] at ev
        obtain ⟨rfl, rfl⟩ := ev
        obtain ⟨g, off, rfl, hg, hat⟩ := hcell (fun e => by rw [e] at hlt; simp at hlt)
        exact ⟨g, off, rfl, hat j hlt 1 (by omega), hat j hlt 2 (by omega), hat j hlt 3 (by omega)⟩
      obtain ⟨g, off, rfl, d1, d2, d3⟩ := HCC.out _ HM.out.be
      have HKP : Hid (∀ wx, Below w.heap.size w wx → wx.cell? ⟨g, off + j * 4 + 1, none⟩ = some (.int .i64 (is.getD j It.nil).op) ∧ wx.cell? ⟨g, off + j * 4 + 2, none⟩ = some (.int .u64 (is.getD j It.nil).k) ∧ wx.cell? ⟨g, off + j * 4 + 3, none⟩ = some (.int .u64 (is.getD j It.nil).v)) := by
        intro wx hb
        obtain ⟨g', off', ea, q⟩ := HCC.out wx hb
        simp only [Option.some.injEq, Addr.mk.injEq, true_and, and_true] at ea
        obtain ⟨rfl, rfl⟩ := ea
        exact q
      have hwk := hwf _ (getD_memT hlt)
      obtain ⟨x, HX0⟩ : ∃ x, Hid (is.getD j It.nil = x) := ⟨_, rfl⟩
      rw [HX0.out] at d1 d2 d3 hwk HKP
      obtain ⟨i, HI⟩ : ∃ i, Hid (atM x.k n = i) := ⟨_, rfl⟩
      have hil : atM x.k n < n := atM_lt hn hwk.1
      obtain ⟨e1, e2⟩ := HV.out.do HM.out.len x.op x.k x.v hil
      rw [HI.out] at e1 e2
      obtain ⟨q, ts', HQ⟩ : ∃ q ts', Hid (doM κ cap ts x.op x.k x.v = (q, ts')) := ⟨_, _, rfl⟩
      obtain ⟨q', s', HD⟩ : ∃ q' s', Hid (doD κ cap (st.getD i Lt.nil) x.op x.k x.v = (q', s')) := ⟨_, _, rfl⟩
      rw [HQ.out, HD.out] at e1 e2
      simp only at e1 e2
      subst e1
      have HV2 := keepG e2
      clear e2 hil
      go_wp2
      refine wp_region_held_drew (S := fun w' => w'.cell? ⟨g, off + j * 4 + 1, none⟩ = some (.int .i64 x.op) ∧ w'.cell? ⟨g, off + j * 4 + 2, none⟩ = some (.int .u64 x.k) ∧ w'.cell? ⟨g, off + j * 4 + 3, none⟩ = some (.int .u64 x.v)) (by kernel_rfl) ⟨d1, d2, d3⟩ (fun hHeld => ?_)
      refine wpAnyH_take (i := 0) (v := ?v13) rfl (by kernel_rfl) (by kernel_rfl) (by kernel_rfl) (fun _ _ _ h => h) (Or.inl ⟨by rfl, ?hy13⟩) (by assumption) ?rest13
      case hy13 => (intro wy hSw; (try dsimp only at hSw); go_simp; (first | done | with_reducible rfl))
      try simp only [Act.put, List.getElem_toArray, List.getElem_cons_zero, List.getElem_cons_succ, List.setIfInBounds_toArray, List.set_cons_zero, List.set_cons_succ]
      refine wpAnyH_take (i := 1) (v := ?v14) rfl (by kernel_rfl) (by kernel_rfl) (by kernel_rfl) (fun _ _ _ h => h) (Or.inl ⟨by rfl, ?hy14⟩) (by assumption) ?rest14
      case hy14 => (intro wy hSw; (try dsimp only at hSw); go_simp; (first | done | with_reducible rfl))
      try simp only [Act.put, List.getElem_toArray, List.getElem_cons_zero, List.getElem_cons_succ, List.setIfInBounds_toArray, List.set_cons_zero, List.set_cons_succ]
      refine wpAnyH_take (i := 2) (v := ?v15) rfl (by kernel_rfl) (by kernel_rfl) (by kernel_rfl) (fun _ _ _ h => h) (Or.inl ⟨by rfl, ?hy15⟩) (by assumption) ?rest15
      case hy15 => (intro wy hSw; (try dsimp only at hSw); go_simp; (first | done | with_reducible rfl))
      try simp only [Act.put, List.getElem_toArray, List.getElem_cons_zero, List.getElem_cons_succ, List.setIfInBounds_toArray, List.set_cons_zero, List.set_cons_succ]
      refine wpAnyH_take (i := 3) (v := ?v16) rfl (by kernel_rfl) (by kernel_rfl) (by kernel_rfl) (fun _ _ _ h => h) (Or.inl ⟨by rfl, ?hy16⟩) (by assumption) ?rest16
      case hy16 => (intro wy hSw; (try dsimp only at hSw); go_simp; (first | done | with_reducible rfl))
      try simp only [Act.put, List.getElem_toArray, List.getElem_cons_zero, List.getElem_cons_succ, List.setIfInBounds_toArray, List.set_cons_zero, List.set_cons_succ]
      refine wpAnyH_take (i := 4) (v := ?v17) rfl (by kernel_rfl) (by kernel_rfl) (by kernel_rfl) (fun _ _ _ h => h) (Or.inl ⟨by rfl, ?hy17⟩) (by assumption) ?rest17
      case hy17 => (intro wy hSw; (try dsimp only at hSw); go_simp; (first | done | with_reducible rfl))
      try simp only [Act.put, List.getElem_toArray, List.getElem_cons_zero, List.getElem_cons_succ, List.setIfInBounds_toArray, List.set_cons_zero, List.set_cons_succ]
      refine wpAnyH_take (i := 5) (v := ?v18) rfl (by kernel_rfl) (by kernel_rfl) (by kernel_rfl) (fun _ _ _ h => h) (Or.inl ⟨by rfl, ?hy18⟩) (by assumption) ?rest18
      case hy18 => (intro wy hSw; (try dsimp only at hSw); go_simp; (first | done | with_reducible rfl))
      try simp only [Act.put, List.getElem_toArray, List.getElem_cons_zero, List.getElem_cons_succ, List.setIfInBounds_toArray, List.set_cons_zero, List.set_cons_succ]
      refine wpAnyH_take (i := 6) (v := ?v19) rfl (by kernel_rfl) (by kernel_rfl) (by kernel_rfl) (fun _ _ _ h => h) (Or.inl ⟨by rfl, ?hy19⟩) (by assumption) ?rest19
      case hy19 => (intro wy hSw; (try dsimp only at hSw); go_simp; (first | done | with_reducible rfl))
      try simp only [Act.put, List.getElem_toArray, List.getElem_cons_zero, List.getElem_cons_succ, List.setIfInBounds_toArray, List.set_cons_zero, List.set_cons_succ]
      refine wpAnyH_take (i := 7) (v := ?v20) rfl (by kernel_rfl) (by kernel_rfl) (by kernel_rfl) (fun _ _ _ h => h) (Or.inl ⟨by rfl, ?hy20⟩) (by assumption) ?rest20
      case hy20 => (intro wy hSw; (try dsimp only at hSw); go_simp; (first | done | with_reducible rfl))
      try simp only [Act.put, List.getElem_toArray, List.getElem_cons_zero, List.getElem_cons_succ, List.setIfInBounds_toArray, List.set_cons_zero, List.set_cons_succ]
      refine wpAnyH_take (i := 8) (v := ?v21) rfl (by kernel_rfl) (by kernel_rfl) (by kernel_rfl) (fun _ _ _ h => h) (Or.inl ⟨by rfl, ?hy21⟩) (by assumption) ?rest21
      case hy21 => (intro wy hSw; (try dsimp only at hSw); go_simp; (first | done | with_reducible rfl))
      try simp only [Act.put, List.getElem_toArray, List.getElem_cons_zero, List.getElem_cons_succ, List.setIfInBounds_toArray, List.set_cons_zero, List.set_cons_succ]
      refine wpAnyH_take (i := 9) (v := ?v22) rfl (by kernel_rfl) (by kernel_rfl) (by kernel_rfl) (fun _ _ _ h => h) (Or.inl ⟨by rfl, ?hy22⟩) (by assumption) ?rest22
      case hy22 => (intro wy hSw; (try dsimp only at hSw); go_simp; (first | done | with_reducible rfl))
      try simp only [Act.put, List.getElem_toArray, List.getElem_cons_zero, List.getElem_cons_succ, List.setIfInBounds_toArray, List.set_cons_zero, List.set_cons_succ]
      refine wpAnyH_take (i := 10) (v := ?v23) rfl (by kernel_rfl) (by kernel_rfl) (by kernel_rfl) (fun _ _ _ h => h) (Or.inl ⟨by rfl, ?hy23⟩) (by assumption) ?rest23
      case hy23 => (intro wy hSw; (try dsimp only at hSw); go_simp; (first | done | with_reducible rfl))
      try simp only [Act.put, List.getElem_toArray, List.getElem_cons_zero, List.getElem_cons_succ, List.setIfInBounds_toArray, List.set_cons_zero, List.set_cons_succ]
      refine wpAnyH_take (i := 11) (v := ?v24) rfl (by kernel_rfl) (by kernel_rfl) (by kernel_rfl) (fun _ _ _ h => h) (Or.inl ⟨by rfl, ?hy24⟩) (by assumption) ?rest24
      case hy24 => (intro wy hSw; (try dsimp only at hSw); go_simp; (first | done | with_reducible rfl))
      try simp only [Act.put, List.getElem_toArray, List.getElem_cons_zero, List.getElem_cons_succ, List.setIfInBounds_toArray, List.set_cons_zero, List.set_cons_succ]
      refine wpAnyH_take (i := 12) (v := ?v25) rfl (by kernel_rfl) (by kernel_rfl) (by kernel_rfl) (fun _ _ _ h => h) (Or.inl ⟨by rfl, ?hy25⟩) (by assumption) ?rest25
      case hy25 => (intro wy hSw; (try dsimp only at hSw); go_simp; (first | done | with_reducible rfl))
      try simp only [Act.put, List.getElem_toArray, List.getElem_cons_zero, List.getElem_cons_succ, List.setIfInBounds_toArray, List.set_cons_zero, List.set_cons_succ]
      refine wpAnyH_take (i := 13) (v := ?v26) rfl (by kernel_rfl) (by kernel_rfl) (by kernel_rfl) (fun _ _ _ h => h) (Or.inl ⟨by rfl, ?hy26⟩) (by assumption) ?rest26
      case hy26 => (intro wy hSw; (try dsimp only at hSw); go_simp; (first | done | with_reducible rfl))
      try simp only [Act.put, List.getElem_toArray, List.getElem_cons_zero, List.getElem_cons_succ, List.setIfInBounds_toArray, List.set_cons_zero, List.set_cons_succ]
      refine wpAnyH_take (i := 14) (v := ?v27) rfl (by kernel_rfl) (by kernel_rfl) (by kernel_rfl) (fun _ _ _ h => h) (Or.inl ⟨by rfl, ?hy27⟩) (by assumption) ?rest27
      case hy27 => (intro wy hSw; (try dsimp only at hSw); go_simp; (first | done | with_reducible rfl))
      try simp only [Act.put, List.getElem_toArray, List.getElem_cons_zero, List.getElem_cons_succ, List.setIfInBounds_toArray, List.set_cons_zero, List.set_cons_succ]
      refine wpAnyH_take (i := 15) (v := ?v28) rfl (by kernel_rfl) (by kernel_rfl) (by kernel_rfl) (fun _ _ _ h => h) (Or.inl ⟨by rfl, ?hy28⟩) (by assumption) ?rest28
      case hy28 => (intro wy hSw; (try dsimp only at hSw); go_simp; (first | done | with_reducible rfl))
      try simp only [Act.put, List.getElem_toArray, List.getElem_cons_zero, List.getElem_cons_succ, List.setIfInBounds_toArray, List.set_cons_zero, List.set_cons_succ]
      refine wpAnyH_take (i := 17) (v := ?v29) rfl (by kernel_rfl) (by kernel_rfl) (by kernel_rfl) (fun _ _ _ h => h) (Or.inl ⟨by rfl, ?hy29⟩) (by assumption) ?rest29
      case hy29 => (intro wy hSw; (try dsimp only at hSw); go_simp; (first | done | with_reducible rfl))
      try simp only [Act.put, List.getElem_toArray, List.getElem_cons_zero, List.getElem_cons_succ, List.setIfInBounds_toArray, List.set_cons_zero, List.set_cons_succ]
      refine wpAnyH_take (i := 18) (v := ?v30) rfl (by kernel_rfl) (by kernel_rfl) (by kernel_rfl) (fun _ _ _ h => h) (Or.inl ⟨by rfl, ?hy30⟩) (by assumption) ?rest30
      case hy30 => (intro wy hSw; (try dsimp only at hSw); go_simp; (first | done | with_reducible rfl))
      try simp only [Act.put, List.getElem_toArray, List.getElem_cons_zero, List.getElem_cons_succ, List.setIfInBounds_toArray, List.set_cons_zero, List.set_cons_succ]
      refine wpAnyH_take (i := 19) (v := ?v31) rfl (by kernel_rfl) (by kernel_rfl) (by kernel_rfl) (fun _ _ _ h => h) (Or.inl ⟨by rfl, ?hy31⟩) (by assumption) ?rest31
      case hy31 => (intro wy hSw; (try dsimp only at hSw); go_simp; (first | done | with_reducible rfl))
      try simp only [Act.put, List.getElem_toArray, List.getElem_cons_zero, List.getElem_cons_succ, List.setIfInBounds_toArray, List.set_cons_zero, List.set_cons_succ]
      refine wpAnyH_take (i := 20) (v := ?v32) rfl (by kernel_rfl) (by kernel_rfl) (by kernel_rfl) (fun _ _ _ h => h) (Or.inl ⟨by rfl, ?hy32⟩) (by assumption) ?rest32
      case hy32 => (intro wy hSw; (try dsimp only at hSw); go_simp; (first | done | with_reducible rfl))
      try simp only [Act.put, List.getElem_toArray, List.getElem_cons_zero, List.getElem_cons_succ, List.setIfInBounds_toArray, List.set_cons_zero, List.set_cons_succ]
      refine wpAnyH_take (i := 21) (v := ?v33) rfl (by kernel_rfl) (by kernel_rfl) (by kernel_rfl) (fun _ _ _ h => h) (Or.inl ⟨by rfl, ?hy33⟩) (by assumption) ?rest33
      case hy33 => (intro wy hSw; (try dsimp only at hSw); go_simp; (first | done | with_reducible rfl))
      try simp only [Act.put, List.getElem_toArray, List.getElem_cons_zero, List.getElem_cons_succ, List.setIfInBounds_toArray, List.set_cons_zero, List.set_cons_succ]
      refine wpAnyH_take (i := 22) (v := ?v34) rfl (by kernel_rfl) (by kernel_rfl) (by kernel_rfl) (fun _ _ _ h => h) (Or.inl ⟨by rfl, ?hy34⟩) (by assumption) ?rest34
      case hy34 => (intro wy hSw; (try dsimp only at hSw); go_simp; (first | done | with_reducible rfl))
      try simp only [Act.put, List.getElem_toArray, List.getElem_cons_zero, List.getElem_cons_succ, List.setIfInBounds_toArray, List.set_cons_zero, List.set_cons_succ]
      refine wpAnyH_take (i := 23) (v := ?v35) rfl (by kernel_rfl) (by kernel_rfl) (by kernel_rfl) (fun _ _ _ h => h) (Or.inl ⟨by rfl, ?hy35⟩) (by assumption) ?rest35
      case hy35 => (intro wy hSw; (try dsimp only at hSw); go_simp; (first | done | with_reducible rfl))
      try simp only [Act.put, List.getElem_toArray, List.getElem_cons_zero, List.getElem_cons_succ, List.setIfInBounds_toArray, List.set_cons_zero, List.set_cons_succ]
      refine wpAnyH_take (i := 24) (v := ?v36) rfl (by kernel_rfl) (by kernel_rfl) (by kernel_rfl) (fun _ _ _ h => h) (Or.inl ⟨by rfl, ?hy36⟩) (by assumption) ?rest36
      case hy36 => (intro wy hSw; (try dsimp only at hSw); go_simp; (first | done | with_reducible rfl))
      try simp only [Act.put, List.getElem_toArray, List.getElem_cons_zero, List.getElem_cons_succ, List.setIfInBounds_toArray, List.set_cons_zero, List.set_cons_succ]
      refine wpAnyH_take (i := 25) (v := ?v37) rfl (by kernel_rfl) (by kernel_rfl) (by kernel_rfl) (fun _ _ _ h => h) (Or.inl ⟨by rfl, ?hy37⟩) (by assumption) ?rest37
      case hy37 => (intro wy hSw; (try dsimp only at hSw); go_simp; (first | done | with_reducible rfl))
      try simp only [Act.put, List.getElem_toArray, List.getElem_cons_zero, List.getElem_cons_succ, List.setIfInBounds_toArray, List.set_cons_zero, List.set_cons_succ]
      refine wpAnyH_take (i := 26) (v := ?v38) rfl (by kernel_rfl) (by kernel_rfl) (by kernel_rfl) (fun _ _ _ h => h) (Or.inl ⟨by rfl, ?hy38⟩) (by assumption) ?rest38
      case hy38 => (intro wy hSw; (try dsimp only at hSw); go_simp; (first | done | with_reducible rfl))
      try simp only [Act.put, List.getElem_toArray, List.getElem_cons_zero, List.getElem_cons_succ, List.setIfInBounds_toArray, List.set_cons_zero, List.set_cons_succ]
      refine wpAnyH_take (i := 27) (v := ?v39) rfl (by kernel_rfl) (by kernel_rfl) (by kernel_rfl) (fun _ _ _ h => h) (Or.inl ⟨by rfl, ?hy39⟩) (by assumption) ?rest39
      case hy39 => (intro wy hSw; (try dsimp only at hSw); go_simp; (first | done | with_reducible rfl))
      try simp only [Act.put, List.getElem_toArray, List.getElem_cons_zero, List.getElem_cons_succ, List.setIfInBounds_toArray, List.set_cons_zero, List.set_cons_succ]
      refine wpAnyH_take (i := 28) (v := ?v40) rfl (by kernel_rfl) (by kernel_rfl) (by kernel_rfl) (fun _ _ _ h => h) (Or.inl ⟨by rfl, ?hy40⟩) (by assumption) ?rest40
      case hy40 => (intro wy hSw; (try dsimp only at hSw); go_simp; (first | done | with_reducible rfl))
      try simp only [Act.put, List.getElem_toArray, List.getElem_cons_zero, List.getElem_cons_succ, List.setIfInBounds_toArray, List.set_cons_zero, List.set_cons_succ]
      refine wpAnyH_take (i := 29) (v := ?v41) rfl (by kernel_rfl) (by kernel_rfl) (by kernel_rfl) (fun _ _ _ h => h) (Or.inl ⟨by rfl, ?hy41⟩) (by assumption) ?rest41
      case hy41 => (intro wy hSw; (try dsimp only at hSw); go_simp; (first | done | with_reducible rfl))
      try simp only [Act.put, List.getElem_toArray, List.getElem_cons_zero, List.getElem_cons_succ, List.setIfInBounds_toArray, List.set_cons_zero, List.set_cons_succ]
      refine wpAnyH_take (i := 30) (v := ?v42) rfl (by kernel_rfl) (by kernel_rfl) (by kernel_rfl) (fun _ _ _ h => h) (Or.inl ⟨by rfl, ?hy42⟩) (by assumption) ?rest42
      case hy42 => (intro wy hSw; (try dsimp only at hSw); go_simp; (first | done | with_reducible rfl))
      try simp only [Act.put, List.getElem_toArray, List.getElem_cons_zero, List.getElem_cons_succ, List.setIfInBounds_toArray, List.set_cons_zero, List.set_cons_succ]
      refine wpAnyH_take (i := 31) (v := ?v43) rfl (by kernel_rfl) (by kernel_rfl) (by kernel_rfl) (fun _ _ _ h => h) (Or.inl ⟨by rfl, ?hy43⟩) (by assumption) ?rest43
      case hy43 => (intro wy hSw; (try dsimp only at hSw); go_simp; (first | done | with_reducible rfl))
      try simp only [Act.put, List.getElem_toArray, List.getElem_cons_zero, List.getElem_cons_succ, List.setIfInBounds_toArray, List.set_cons_zero, List.set_cons_succ]
      refine wpAnyH_take (i := 32) (v := ?v44) rfl (by kernel_rfl) (by kernel_rfl) (by kernel_rfl) (fun _ _ _ h => h) (Or.inl ⟨by rfl, ?hy44⟩) (by assumption) ?rest44
      case hy44 => (intro wy hSw; (try dsimp only at hSw); go_simp; (first | done | with_reducible rfl))
      try simp only [Act.put, List.getElem_toArray, List.getElem_cons_zero, List.getElem_cons_succ, List.setIfInBounds_toArray, List.set_cons_zero, List.set_cons_succ]
      refine wpAnyH_ready (rs := [16]) (by kernel_rfl) (by simp) ?_
      refine AllReadyH.cons rfl (fun KK hK => ?_) AllReadyH.nil
      rw [if_pos (by rfl)]
      go_simp
      go_at_call 11
      refine ((HM.out.drewN 1).doL hwk HQ HV.out.inv).mono ?_
      rintro e w7 ⟨rfl, ht7⟩
      have HM7 := keepG ht7
      clear ht7
      go_simp
      refine hK.out _ _ (HKP.out w7 HM7.out.be) (fun hHeld => ?_)
      clear hK KK
      try simp only [Act.put, List.getElem_toArray, List.getElem_cons_zero, List.getElem_cons_succ, List.setIfInBounds_toArray, List.set_cons_zero, List.set_cons_succ]
      refine wpAnyH_ready (rs := [33]) (by kernel_rfl) (by simp) ?_
      refine AllReadyH.cons rfl (fun KK hK => ?_) AllReadyH.nil
      rw [if_pos (by rfl)]
      go_simp
      go_at_call 12
      refine (HM7.out.doR hwk HI HD HV.out (by omega)).mono ?_
      rintro e w8 ⟨rfl, ht8⟩
      have HM8 := keepG ht8
      clear ht8
      go_simp
      refine hK.out _ _ (HKP.out w8 HM8.out.be) (fun hHeld => ?_)
      clear hK KK
      try simp only [Act.put, List.getElem_toArray, List.getElem_cons_zero, List.getElem_cons_succ, List.setIfInBounds_toArray, List.set_cons_zero, List.set_cons_succ]
      dsimp only [resG]
      refine wpAnyH_take (i := 34) (v := ?v1) rfl (by kernel_rfl) (by kernel_rfl) (by kernel_rfl) (fun _ _ _ h => h) (Or.inl ⟨by rfl, ?hy1⟩) (by assumption) ?rest1
      case hy1 => (intro wy hSw; (try dsimp only at hSw); go_simp; (first | done | with_reducible rfl))
      try simp only [Act.put, List.getElem_toArray, List.getElem_cons_zero, List.getElem_cons_succ, List.setIfInBounds_toArray, List.set_cons_zero, List.set_cons_succ]
      refine wpAnyH_done (by kernel_rfl) ?_ _
      go_wp2
      first
        | (go_roundw
           case rel => exact ⟨j + 1, by omega, by go_num, ts', _, HM8, HV2, by omega⟩
           case measure => simp [intOf]; omega)
        | exact ⟨⟨j + 1, by omega, by go_num, ts', _, HM8, HV2, by omega⟩, by simp [intOf]; omega⟩
    · by_cases hA : j < is.length
      · have hltI : (j : Int) < is.length := by omega
        have h3I : ¬ (j : Int) < 3000 := by omega
        obtain ⟨W, HW⟩ : ∃ W, Hid (walkM ts = W) := ⟨_, rfl⟩
        have HWL : Hid ((walkM ts).length = W.length) := by show _ = _; rw [HW.out]
        go_wp2_with (first
          | (go_at_call 13; go_must (refine (HM.out.walkR HV.out HW).mono ?_); rintro e wa ⟨ua, rfl, hua, hba⟩; go_must (have HMa := keepG (HM.out.below hba); have HUa := keepG (own_seesG ppC_len Pp.nil hua); obtain ⟨pa, pc, rfl⟩ := own_shape hua; clear hua))
          | (go_at_call 15; go_must (refine (HMa.out.walkL HV.out.inv HW).mono ?_); rintro e wb ⟨ub, rfl, hub, hbb⟩; go_must (have HMb := keepG (HMa.out.below hbb); have HUb := keepG (own_seesG ppC_len Pp.nil hub); have HVb := keepG (HUa.out.below hbb (Nat.le_refl _)); clear hub))
          | (go_at_call 14; go_must (refine (wpairs15 HUb.out HVb.out).mono ?_); rintro e wc ⟨rfl, mc, rfl⟩; go_must (have HMc := keepG (HMb.out.drewN mc)))
          | (go_at_call 16; go_must (refine (HMc.out.lenM HV.out.inv HWL).mono ?_); rintro e wd ⟨rfl, rfl⟩))
        go_loopw [13] (fun i wv => ∃ sI : Int, -1 ≤ sI ∧ sI ≤ n + 1 ∧ i = .int .i64 sI ∧ Hid (Pm w wv l r n cap κ kk ts st)) (fun i _ => ((n : Int) + 2 - intOf i).toNat)
        case atStart => exact ⟨-1, by omega, by omega, rfl, HMc.out⟩
        case round =>
          obtain ⟨sI, hs0, hs1, rfl, HP⟩ := hrel
          rename World => wv
          by_cases hle : sI ≤ n
          · have hwr : IntKind.i64.wrap (sI + 1) = sI + 1 := by rw [IntKind.wrap_i64]; omega
            by_cases h0 : sI < 0
            · go_wp2_with (go_at_call 17; go_must (refine (HP.out.part_no sI (.inl h0)).mono ?_); rintro e w9 ⟨rfl, rfl⟩)
              first
                | (go_roundw
                   case rel => exact ⟨sI + 1, by omega, by omega, by go_num, HP.out⟩
                   case measure => simp [intOf]; omega)
                | exact ⟨⟨sI + 1, by omega, by omega, by go_num, HP.out⟩, by simp [intOf]; omega⟩
            · by_cases hN : sI = n
              · subst hN
                go_wp2_with (go_at_call 17; go_must (refine (HP.out.part_no n (.inr (Int.le_refl _))).mono ?_); rintro e w9 ⟨rfl, rfl⟩)
                first
                  | (go_roundw
                     case rel => exact ⟨(n : Int) + 1, by omega, by omega, by go_num, HP.out⟩
                     case measure => simp [intOf]; omega)
                  | exact ⟨⟨(n : Int) + 1, by omega, by omega, by go_num, HP.out⟩, by simp [intOf]; omega⟩
              · obtain ⟨i, rfl⟩ := Int.eq_ofNat_of_zero_le (show 0 ≤ sI by omega)
                have hin : i < n := by omega
                have hinI : (i : Int) < n := by omega
                have hNb : ((i : Int) == n) = false := by simpa using hN
                obtain ⟨T, HTT⟩ : ∃ T, Hid ((ts.getD i Sr.nil).1 = T) := ⟨_, rfl⟩
                obtain ⟨g9, c9, p9, y0, y1, hlr, hlg, HPR⟩ := HP.out.shard HV.out hin
                rw [HTT.out] at HPR
                go_wp2_with (first
                  | (go_at_call 17; go_must (refine (HP.out.part HV.out.inv hin HTT).mono ?_); rintro e we ⟨ue, rfl, hue, hbe⟩; go_must (have HMe := keepG (HP.out.below hbe); have HUe := keepG (own_seesG ppC_len Pp.nil hue); have z0 := (hbe.cell (p := ⟨r, 0, none⟩) hlr).trans y0; have z1 := (hbe.cell (p := ⟨g9, i, none⟩) hlg).trans y1; clear hue))
                  | (go_at_call 18; go_must (refine (HPR.out we hbe).mono ?_); rintro e wf ⟨uf, rfl, huf, hbf⟩; go_must (have HMf := keepG (HMe.out.below hbf); have HUf := keepG (own_seesG ppC_len Pp.nil huf); have HVf := keepG (HUe.out.below hbf (Nat.le_refl _)); clear huf))
                  | (go_at_call 14; go_must (refine (wpairs15 HVf.out HUf.out).mono ?_); rintro e wg ⟨rfl, mg, rfl⟩; go_must (have HMg := keepG (HMf.out.drewN mg))))
                first
                  | (go_roundw
                     case rel => exact ⟨(i : Int) + 1, by omega, by omega, by go_num, HMg.out⟩
                     case measure => simp [intOf]; omega)
                  | exact ⟨⟨(i : Int) + 1, by omega, by omega, by go_num, HMg.out⟩, by simp [intOf]; omega⟩
          · have hleI : ¬ sI ≤ n := hle
            go_wp2
            go_ret
            exact ⟨rfl, HP.out.be⟩
      · have hltI : ¬ (j : Int) < is.length := by omega
        obtain ⟨W, HW⟩ : ∃ W, Hid (walkM ts = W) := ⟨_, rfl⟩
        have HWL : Hid ((walkM ts).length = W.length) := by show _ = _; rw [HW.out]
        go_wp2_with (first
          | (go_at_call 13; go_must (refine (HM.out.walkR HV.out HW).mono ?_); rintro e wa ⟨ua, rfl, hua, hba⟩; go_must (have HMa := keepG (HM.out.below hba); have HUa := keepG (own_seesG ppC_len Pp.nil hua); obtain ⟨pa, pc, rfl⟩ := own_shape hua; clear hua))
          | (go_at_call 15; go_must (refine (HMa.out.walkL HV.out.inv HW).mono ?_); rintro e wb ⟨ub, rfl, hub, hbb⟩; go_must (have HMb := keepG (HMa.out.below hbb); have HUb := keepG (own_seesG ppC_len Pp.nil hub); have HVb := keepG (HUa.out.below hbb (Nat.le_refl _)); clear hub))
          | (go_at_call 14; go_must (refine (wpairs15 HUb.out HVb.out).mono ?_); rintro e wc ⟨rfl, mc, rfl⟩; go_must (have HMc := keepG (HMb.out.drewN mc)))
          | (go_at_call 16; go_must (refine (HMc.out.lenM HV.out.inv HWL).mono ?_); rintro e wd ⟨rfl, rfl⟩))
        go_loopw [13] (fun i wv => ∃ sI : Int, -1 ≤ sI ∧ sI ≤ n + 1 ∧ i = .int .i64 sI ∧ Hid (Pm w wv l r n cap κ kk ts st)) (fun i _ => ((n : Int) + 2 - intOf i).toNat)
        case atStart => exact ⟨-1, by omega, by omega, rfl, HMc.out⟩
        case round =>
          obtain ⟨sI, hs0, hs1, rfl, HP⟩ := hrel
          rename World => wv
          by_cases hle : sI ≤ n
          · have hwr : IntKind.i64.wrap (sI + 1) = sI + 1 := by rw [IntKind.wrap_i64]; omega
            by_cases h0 : sI < 0
            · go_wp2_with (go_at_call 17; go_must (refine (HP.out.part_no sI (.inl h0)).mono ?_); rintro e w9 ⟨rfl, rfl⟩)
              first
                | (go_roundw
                   case rel => exact ⟨sI + 1, by omega, by omega, by go_num, HP.out⟩
                   case measure => simp [intOf]; omega)
                | exact ⟨⟨sI + 1, by omega, by omega, by go_num, HP.out⟩, by simp [intOf]; omega⟩
            · by_cases hN : sI = n
              · subst hN
                go_wp2_with (go_at_call 17; go_must (refine (HP.out.part_no n (.inr (Int.le_refl _))).mono ?_); rintro e w9 ⟨rfl, rfl⟩)
                first
                  | (go_roundw
                     case rel => exact ⟨(n : Int) + 1, by omega, by omega, by go_num, HP.out⟩
                     case measure => simp [intOf]; omega)
                  | exact ⟨⟨(n : Int) + 1, by omega, by omega, by go_num, HP.out⟩, by simp [intOf]; omega⟩
              · obtain ⟨i, rfl⟩ := Int.eq_ofNat_of_zero_le (show 0 ≤ sI by omega)
                have hin : i < n := by omega
                have hinI : (i : Int) < n := by omega
                have hNb : ((i : Int) == n) = false := by simpa using hN
                obtain ⟨T, HTT⟩ : ∃ T, Hid ((ts.getD i Sr.nil).1 = T) := ⟨_, rfl⟩
                obtain ⟨g9, c9, p9, y0, y1, hlr, hlg, HPR⟩ := HP.out.shard HV.out hin
                rw [HTT.out] at HPR
                go_wp2_with (first
                  | (go_at_call 17; go_must (refine (HP.out.part HV.out.inv hin HTT).mono ?_); rintro e we ⟨ue, rfl, hue, hbe⟩; go_must (have HMe := keepG (HP.out.below hbe); have HUe := keepG (own_seesG ppC_len Pp.nil hue); have z0 := (hbe.cell (p := ⟨r, 0, none⟩) hlr).trans y0; have z1 := (hbe.cell (p := ⟨g9, i, none⟩) hlg).trans y1; clear hue))
                  | (go_at_call 18; go_must (refine (HPR.out we hbe).mono ?_); rintro e wf ⟨uf, rfl, huf, hbf⟩; go_must (have HMf := keepG (HMe.out.below hbf); have HUf := keepG (own_seesG ppC_len Pp.nil huf); have HVf := keepG (HUe.out.below hbf (Nat.le_refl _)); clear huf))
                  | (go_at_call 14; go_must (refine (wpairs15 HVf.out HUf.out).mono ?_); rintro e wg ⟨rfl, mg, rfl⟩; go_must (have HMg := keepG (HMf.out.drewN mg))))
                first
                  | (go_roundw
                     case rel => exact ⟨(i : Int) + 1, by omega, by omega, by go_num, HMg.out⟩
                     case measure => simp [intOf]; omega)
                  | exact ⟨⟨(i : Int) + 1, by omega, by omega, by go_num, HMg.out⟩, by simp [intOf]; omega⟩
          · have hleI : ¬ sI ≤ n := hle
            go_wp2
            go_ret
            exact ⟨rfl, HP.out.be⟩
/-- CmapPlays. -/
theorem cmapPlays_walk (k c n : Int) (sv : Value) (is : List It) (w : World) {P0 : Prop} (_ : P0) (hs : SeesG itC 4 It.nil w sv is) (hwf : ∀ x ∈ is, It.wf x) (hlen : is.length * 32 ≤ 140737488351232) :
    Calls Try.prog 3 #[defW k c, .int .i64 n, sv] w fun e w' => e = .returned (.bool true) ∧ Below w.heap.size w w' := by
  by_cases h : (n < 1 ∨ 4 < n) ∨ defNoL k c
  · exact cmapPlays_no k c n sv w h
  · unfold defNoL at h
    obtain ⟨m, rfl⟩ : ∃ m : Nat, n = m := ⟨n.toNat, by omega⟩
    obtain ⟨cap, rfl⟩ : ∃ cap : Nat, c = cap := ⟨c.toNat, by omega⟩
    obtain ⟨κ, HK⟩ : ∃ κ : Bool, Hid (kindJ κ = k) := by
      by_cases h0 : k = 0
      · exact ⟨false, h0.symm⟩
      · exact ⟨true, show (1 : Int) = k by omega⟩
    exact cmapPlays_ok κ cap m (by omega) (by omega) (by omega) (by omega) HK sv is w hs hwf (by omega)
end Go.Proofs.Ytinoelooccmmnaa
