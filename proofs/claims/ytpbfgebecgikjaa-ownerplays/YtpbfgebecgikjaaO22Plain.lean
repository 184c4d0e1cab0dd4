
/-
  An owner of one shard of all maps, plain: its shards, and the line of what is asked of it. No Go text in sight.
-/
import Derived.Test.YtpbfgebecgikjaaC15Plain
namespace Go.Proofs.Ytpbfgebecgikjaa
set_option linter.unusedVariables false
set_option linter.unusedSimpArgs false

/-- A request. -/
structure Rt where
  f : Int
  t : Int
  wk : Bool
  m : Int
  op : Int
  k : Int
  v : Int
def Rt.nil : Rt := ⟨0, 0, false, 0, 0, 0, 0⟩
def Rq.none : Rq := ⟨0, false, 0, false, 0, 0⟩
/-- A reply: the request, what came of it, the pairs of a walk. -/
structure Ry where
  q : Rt
  x : Rq
  ps : List Pp
def Ry.nil : Ry := ⟨Rt.nil, Rq.none, []⟩
/-- What a map is made by: bounded or not, its capacity. -/
abbrev Df := Bool × Nat
structure On where
  sh : Nat
  n : Nat
  ds : List Df
  st : List Sr
  ln : List Rt
  over : Bool
def On.new (sh n : Nat) (ds : List Df) : On := ⟨sh, n, ds, List.replicate ds.length Sr.nil, [], false⟩
def On.hasM (o : On) (m : Int) : Bool := decide (0 ≤ m) && decide (m < o.st.length)
def On.here (o : On) (op k : Int) : Bool := decide (0 ≤ op) && decide (op ≤ 4) && decide (ofL k o.n = o.sh)
def On.takes (o : On) (q : Rt) : Bool := o.hasM q.m && (q.wk || o.here q.op q.k)
def On.line (o : On) (l : List Rt) : On := ⟨o.sh, o.n, o.ds, o.st, l, o.over⟩
def On.send (o : On) (qs : List Rt) : Int × On :=
  if o.over = true then (43, o) else if qs.all o.takes = true then (0, o.line (o.ln ++ qs)) else (2, o)
def On.sr (o : On) (m : Int) : Sr := o.st.getD m.toNat Sr.nil
def On.df (o : On) (m : Int) : Df := o.ds.getD m.toNat (false, 0)
/-- One request is done. -/
def On.serve (o : On) (q : Rt) (r : List Rt) : Ry × On :=
  if q.wk = true then (⟨q, Rq.none, (o.sr q.m).1⟩, o.line r)
  else (⟨q, (doSh (o.df q.m).1 (o.df q.m).2 (o.sr q.m) q.op q.k q.v).1, []⟩, ⟨o.sh, o.n, o.ds, o.st.set q.m.toNat (doSh (o.df q.m).1 (o.df q.m).2 (o.sr q.m) q.op q.k q.v).2, r, o.over⟩)
def On.step (o : On) : Ry × Bool × On := match o.ln with
  | [] => (Ry.nil, false, o)
  | q :: r => ((o.serve q r).1, true, (o.serve q r).2)
def On.end (o : On) : Int × On := if o.ln = [] then (0, ⟨o.sh, o.n, o.ds, o.st, o.ln, true⟩) else (42, o)
/-- What holds of every owner. -/
structure On.Ok (o : On) : Prop where
  n1 : 1 ≤ o.n ∧ o.n ≤ 4
  sh : o.sh < o.n
  len : o.st.length = o.ds.length
  four : o.ds.length ≤ 4
  inv : ∀ i, i < o.ds.length → InvSh (o.ds.getD i (false, 0)).1 (o.ds.getD i (false, 0)).2 (o.st.getD i Sr.nil) ∧ (o.ds.getD i (false, 0)).2 ≤ 16
  line : ∀ q ∈ o.ln, o.takes q = true
theorem On.hasM_nat {o : On} {m : Int} (h : o.hasM m = true) : ∃ k : Nat, m = k ∧ k < o.st.length := by
  simp only [On.hasM, Bool.and_eq_true, decide_eq_true_eq] at h
  exact ⟨m.toNat, by omega, by omega⟩
theorem On.hasM_of {o : On} {k : Nat} (h : k < o.st.length) : o.hasM k = true := by simp [On.hasM]; omega
theorem On.hasM_no {o : On} {m : Int} (h : o.hasM m = false) : m < 0 ∨ (o.st.length : Int) ≤ m := by
  by_cases h0 : m < 0
  · exact .inl h0
  · refine .inr (Int.not_lt.1 fun e => ?_)
    have : o.hasM m = true := by simp [On.hasM]; omega
    rw [h] at this; cases this
theorem On.takes_m {o : On} {q : Rt} (h : o.takes q = true) : o.hasM q.m = true := by
  simp only [On.takes, Bool.and_eq_true] at h
  exact h.1
/-- Whether a request may be sent hangs on the number of maps, the shard and how many shards there are alone. -/
theorem takes_same {o o' : On} (h1 : o'.st.length = o.st.length) (h2 : o'.n = o.n) (h3 : o'.sh = o.sh) (q : Rt) : o'.takes q = o.takes q := by
  unfold On.takes On.hasM On.here
  rw [h1, h2, h3]
theorem On.Ok.new {sh n : Nat} {ds : List Df} (h1 : 1 ≤ n ∧ n ≤ 4) (h2 : sh < n) (h3 : ds.length ≤ 4) (h4 : ∀ i, i < ds.length → 1 ≤ (ds.getD i (false, 0)).2 ∧ (ds.getD i (false, 0)).2 ≤ 16) : (On.new sh n ds).Ok := by
  refine ⟨h1, h2, by simp [On.new], h3, fun i hi => ?_, by simp [On.new]⟩
  have hi' : i < ds.length := hi
  have e : (On.new sh n ds).st.getD i Sr.nil = Sr.nil := by
    show (List.replicate ds.length Sr.nil).getD i Sr.nil = _
    simp [List.getD, List.getElem?_replicate, hi']
  rw [e]
  exact ⟨InvSh.new (h4 i hi).1, (h4 i hi).2⟩
theorem On.Ok.line' {o : On} (h : o.Ok) {l : List Rt} (hl : ∀ q ∈ l, o.takes q = true) : (o.line l).Ok :=
  ⟨h.n1, h.sh, h.len, h.four, h.inv, fun q hq => (takes_same (o := o) (o' := o.line l) rfl rfl rfl q).trans (hl q hq)⟩
theorem On.Ok.send {o o' : On} {qs : List Rt} {E : Int} (h : o.Ok) (hq : o.send qs = (E, o')) : o'.Ok := by
  unfold On.send at hq
  split at hq
  · injection hq with _ e; rw [← e]; exact h
  · split at hq
    · rename_i hall
      injection hq with _ e
      rw [← e]
      refine h.line' (fun q hq => ?_)
      simp only [List.mem_append] at hq
      rcases hq with g | g
      · exact h.line q g
      · exact (List.all_eq_true.1 hall) q g
    · injection hq with _ e; rw [← e]; exact h
theorem On.Ok.serve {o : On} {q : Rt} {r : List Rt} (h : o.Ok) (hl : o.ln = q :: r) : (o.serve q r).2.Ok := by
  have ht := h.line q (by rw [hl]; simp)
  have hr : ∀ x ∈ r, o.takes x = true := fun x hx => h.line x (by rw [hl]; simp [hx])
  unfold On.serve
  split
  · exact h.line' hr
  · obtain ⟨k, e, hk⟩ := On.hasM_nat (On.takes_m ht)
    refine ⟨h.n1, h.sh, by simp [h.len], h.four, fun i hi => ?_, fun x hx => (takes_same (o := o) (o' := ⟨o.sh, o.n, o.ds, o.st.set q.m.toNat (doSh (o.df q.m).1 (o.df q.m).2 (o.sr q.m) q.op q.k q.v).2, r, o.over⟩) (by simp) rfl rfl x).trans (hr x hx)⟩
    have hi' : i < o.ds.length := hi
    have h0 := h.inv i hi'
    refine ⟨?_, h0.2⟩
    rw [e]
    show InvSh (o.ds.getD i (false, 0)).1 (o.ds.getD i (false, 0)).2 ((o.st.set k _).getD i Sr.nil)
    by_cases hik : k = i
    · subst hik
      rw [getD_set_same hk]
      exact h0.1.do _ _ _
    · rw [getD_set_other hik]
      exact h0.1
theorem On.Ok.step {o o' : On} {p : Ry} {b : Bool} (h : o.Ok) (hq : o.step = (p, b, o')) : o'.Ok := by
  unfold On.step at hq
  split at hq
  · injection hq with _ hq; injection hq with _ e; rw [← e]; exact h
  · rename_i q r hl
    injection hq with _ hq
    injection hq with _ e
    rw [← e]
    exact h.serve hl
theorem On.Ok.end {o o' : On} {E : Int} (h : o.Ok) (hq : o.end = (E, o')) : o'.Ok := by
  unfold On.end at hq
  split at hq
  · injection hq with _ e; rw [← e]; exact ⟨h.n1, h.sh, h.len, h.four, h.inv, fun q hq => (takes_same (o := o) (o' := ⟨o.sh, o.n, o.ds, o.st, o.ln, true⟩) rfl rfl rfl q).trans (h.line q hq)⟩
  · injection hq with _ e; rw [← e]; exact h
end Go.Proofs.Ytpbfgebecgikjaa
