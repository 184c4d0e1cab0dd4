/-
  X24Plain
  X24Ok
  X24Rel
-/
import Derived.Test.YtlkdniglaldilaaGreatMG16
import Derived.Test.YtlkdniglaldilaaGreatMG31
namespace Go.Proofs.YtlkdniglaldilaaGreat
set_option linter.unusedVariables false
set_option linter.unusedSimpArgs false
structure Pg where
 ms : List Int
 xs : List In
 st : Nat
 ep : Int
def Pg.nil : Pg := ⟨[], [], 2, 0⟩
structure Rg where
 mp : Nat
 tb : Tb
 ck : Ck
 ps : List Pg
 ln : List Int
def Rg.new (h m k : Nat) : Rg := ⟨m, Tb.new h, Ck.new k, [], []⟩
def Rg.pg (r : Rg) (n : Int) : Pg := if 1 <= n then r.ps.getD (n - 1).toNat Pg.nil else Pg.nil
def Rg.st (r : Rg) (n : Int) : Nat := (r.pg n).st
def thereB (p : Pg) : Bool := decide (p.st < 2)
def Rg.there (r : Rg) : Nat := (r.ps.filter thereB).length
def Rg.load (r : Rg) (E : Int) (ms : List Int) (xs : List In) : Int × Int × Rg :=
 if E ≠ 0 then (0, E, r) else if ms.all (fun m => decide (m < r.mp)) = false then (0, 41, r) else if 16 <= r.there then (0, 40, r)
 else (r.ps.length + 1, 0, ⟨r.mp, r.tb, r.ck, r.ps ++ [⟨ms, xs, 0, 0⟩], r.ln⟩)
def Rg.put (r : Rg) (sw : Bool) (h p : Int) : Int × Int × Rg :=
 if r.tb.has h = false then (0, 2, r) else if r.st p ≠ 0 then (0, 41, r) else ((r.tb.put sw h p).1, (r.tb.put sw h p).2.1, ⟨r.mp, (r.tb.put sw h p).2.2, r.ck, r.ps, r.ln⟩)
def setSt (ps : List Pg) (n : Int) (s : Nat) (e : Int) : List Pg := ps.set (n - 1).toNat ⟨(ps.getD (n - 1).toNat Pg.nil).ms, (ps.getD (n - 1).toNat Pg.nil).xs, s, e⟩
def Rg.ret (r : Rg) (p : Int) : Int × Int × Rg :=
 if r.st p = 2 then (0, 41, r) else if r.st p = 1 then (0, 42, r) else if r.tb.wh [p] ≠ [] then (0, 42, r)
 else (r.ck.now + 1, 0, ⟨r.mp, r.tb, r.ck.go, setSt r.ps p 1 (r.ck.now + 1), r.ln ++ [p]⟩)
def Rg.safeP (r : Rg) (n : Int) : Bool := r.ck.safe (r.pg n).ep
def Rg.goes (r : Rg) (most : Int) : List Int := (r.ln.filter r.safeP).take most.toNat
def Rg.settle (r : Rg) (most : Int) : List Int × Rg :=
 (r.goes most, ⟨r.mp, r.tb, r.ck, (r.goes most).foldl (fun ps n => setSt ps n 2 0) r.ps, r.ln.filter (fun n => !decide (n ∈ r.goes most))⟩)
def Rg.enter (r : Rg) (x : Int) : Int × Int × Rg := ((r.ck.enter x).1, (r.ck.enter x).2.1, ⟨r.mp, r.tb, (r.ck.enter x).2.2, r.ps, r.ln⟩)
def Rg.leave (r : Rg) (ws : List Int) : Int × Rg := ((r.ck.leave ws).1, ⟨r.mp, r.tb, (r.ck.leave ws).2, r.ps, r.ln⟩)
def Rg.go (r : Rg) : Rg := ⟨r.mp, r.tb, r.ck.go, r.ps, r.ln⟩
def Rg.det (r : Rg) (hs : List Int) : Int × Rg := ((r.tb.det hs).1, ⟨r.mp, (r.tb.det hs).2, r.ck, r.ps, r.ln⟩)
def numF (s : Nat) : Nat -> List Pg -> List Int
 | _, [] => []
 | n, p :: l => if p.st = s then ((n : Int) + 1) :: numF s (n + 1) l else numF s (n + 1) l
def Rg.live (r : Rg) : List Int := numF 0 0 r.ps
theorem mem_numF {s : Nat} {x : Int} : ∀ {l : List Pg} {n : Nat}, x ∈ numF s n l ↔ ∃ k, k < l.length /\ (l.getD k Pg.nil).st = s /\ x = (n : Int) + k + 1
 | [], n => by simp [numF]
 | p :: l, n => by
  have ih := @mem_numF s x l (n + 1)
  unfold numF
  constructor
  ·intro h
   by_cases hp : p.st = s
   ·rw [if_pos hp] at h
    rcases List.mem_cons.1 h with h | h
    ·exact ⟨0, by simp, hp, by omega⟩
    ·obtain ⟨k, h1, h2, h3⟩ := ih.1 h
     exact ⟨k + 1, by simpa using h1, h2, by omega⟩
   ·rw [if_neg hp] at h
    obtain ⟨k, h1, h2, h3⟩ := ih.1 h
    exact ⟨k + 1, by simpa using h1, h2, by omega⟩
  ·rintro ⟨k, h1, h2, h3⟩
   cases k with
   | zero =>
    have hp : p.st = s := h2
    rw [if_pos hp]
    exact List.mem_cons.2 (.inl (by omega))
   | succ k =>
    have : x ∈ numF s (n + 1) l := ih.2 ⟨k, by simpa using h1, h2, by omega⟩
    by_cases hp : p.st = s
    ·rw [if_pos hp]; exact List.mem_cons_of_mem _ this
    ·rw [if_neg hp]; exact this
theorem numF_up {s : Nat} : ∀ {l : List Pg} {n : Nat}, (numF s n l).Pairwise (· < ·)
 | [], n => List.Pairwise.nil
 | p :: l, n => by
  unfold numF
  by_cases hp : p.st = s
  ·rw [if_pos hp]
   refine List.pairwise_cons.2 ⟨fun x hx => ?_, numF_up⟩
   obtain ⟨k, _, _, h⟩ := mem_numF.1 hx
   omega
  ·rw [if_neg hp]; exact numF_up
theorem numF_app {s : Nat} : ∀ {l : List Pg} {n : Nat} (q : Pg), numF s n (l ++ [q]) = numF s n l ++ (if q.st = s then [((n + l.length : Nat) : Int) + 1] else [])
 | [], n, q => by simp [numF]
 | p :: l, n, q => by
  have ih := @numF_app s l (n + 1) q
  rw [List.cons_append]
  unfold numF
  rw [ih, show n + 1 + l.length = n + (p :: l).length by simp; omega]
  by_cases hp : p.st = s
  ·rw [if_pos hp, if_pos hp]; rfl
  ·rw [if_neg hp, if_neg hp]
structure Rg.Ok (r : Rg) : Prop where
 mp : r.mp <= 4
 tb : r.tb.Ok
 ck : r.ck.Ok
 nd : r.ln.Nodup
 ln : ∀ n, n ∈ r.ln ↔ r.st n = 1
 ms : ∀ p ∈ r.ps, p.ms.Nodup /\ ∀ m ∈ p.ms, 0 <= m /\ m < r.mp
 th : r.there <= 16
 sb : ∀ p ∈ r.ps, p.st <= 2
theorem Rg.st_in {r : Rg} {n : Int} (h : r.st n ≠ 2) : 1 <= n /\ n <= r.ps.length := by
 unfold Rg.st Rg.pg at h
 by_cases h1 : 1 <= n
 ·rw [if_pos h1] at h
  refine ⟨h1, Int.not_lt.1 fun g => h ?_⟩
  rw [List.getD_eq_getElem?_getD, List.getElem?_eq_none (by omega)]
  rfl
 ·rw [if_neg h1] at h
  exact absurd rfl h
theorem Rg.Ok.new {h m k : Nat} (h1 : 1 <= h) (h2 : h <= 4) (hm : m <= 4) (h3 : 1 <= k) (h4 : k <= 4) : (Rg.new h m k).Ok := by
 refine ⟨hm, Tb.Ok.new h1 h2, Ck.Ok.new h3 h4, List.nodup_nil, fun n => ⟨fun e => (by cases e), fun e => ?_⟩, fun p hp => (by cases hp), Nat.zero_le _, fun p hp => (by cases hp)⟩
 have : (Rg.new h m k).st n = 2 := by
  unfold Rg.st Rg.pg
  split <;> rfl
 rw [this] at e
 cases e
def stP (ps : List Pg) (n : Int) : Nat := (if 1 <= n then ps.getD (n - 1).toNat Pg.nil else Pg.nil).st
theorem Rg.st_eq (r : Rg) (n : Int) : r.st n = stP r.ps n := rfl
theorem stP_app (ps : List Pg) (p : Pg) (n : Int) : stP (ps ++ [p]) n = if n = (ps.length : Int) + 1 then p.st else stP ps n := by
 unfold stP
 by_cases h1 : 1 <= n
 ·rw [if_pos h1, if_pos h1]
  by_cases e : n = (ps.length : Int) + 1
  ·rw [if_pos e, List.getD_eq_getElem?_getD, List.getElem?_append_right (by omega), show (n - 1).toNat - ps.length = 0 by omega]
   rfl
  ·rw [if_neg e]
   rcases Nat.lt_or_ge (n - 1).toNat ps.length with g | g
   ·rw [List.getD_eq_getElem?_getD, List.getElem?_append_left g, <- List.getD_eq_getElem?_getD]
   ·rw [List.getD_eq_getElem?_getD, List.getElem?_eq_none (by simp; omega), List.getD_eq_getElem?_getD, List.getElem?_eq_none g]
 ·rw [if_neg h1, if_neg h1, if_neg (by omega)]
theorem stP_set {ps : List Pg} {p : Int} (h1 : 1 <= p) (h2 : p <= ps.length) (s : Nat) (e n : Int) : stP (setSt ps p s e) n = if n = p then s else stP ps n := by
 unfold stP setSt
 by_cases hn : 1 <= n
 ·rw [if_pos hn, if_pos hn]
  by_cases g : n = p
  ·subst g
   rw [if_pos rfl, List.getD_eq_getElem?_getD, List.getElem?_set_self (by omega)]
   rfl
  ·rw [if_neg g, List.getD_eq_getElem?_getD, List.getElem?_set_ne (by omega), <- List.getD_eq_getElem?_getD]
 ·rw [if_neg hn, if_neg hn, if_neg (by omega)]
theorem setSt_len (ps : List Pg) (p : Int) (s : Nat) (e : Int) : (setSt ps p s e).length = ps.length := by simp [setSt]
theorem setSt_mem {ps : List Pg} {p : Int} (h1 : 1 <= p) (h2 : p <= ps.length) {s : Nat} {e : Int} {q : Pg} (hq : q ∈ setSt ps p s e) : ∃ q' ∈ ps, q.ms = q'.ms /\ q.xs = q'.xs := by
 rcases List.mem_or_eq_of_mem_set hq with h | h
 ·exact ⟨q, h, rfl, rfl⟩
 ·subst h
  have hl : (p - 1).toNat < ps.length := by omega
  refine ⟨ps.getD (p - 1).toNat Pg.nil, ?_, rfl, rfl⟩
  rw [List.getD_eq_getElem?_getD, List.getElem?_eq_getElem hl]
  exact List.getElem_mem _
theorem Rg.Ok.enter {r : Rg} (h : r.Ok) (x : Int) : (r.enter x).2.2.Ok := ⟨h.mp, h.tb, h.ck.enter x, h.nd, h.ln, h.ms, h.th, h.sb⟩
theorem Rg.Ok.leave {r : Rg} (h : r.Ok) (ws : List Int) : (r.leave ws).2.Ok := ⟨h.mp, h.tb, h.ck.leave ws, h.nd, h.ln, h.ms, h.th, h.sb⟩
theorem Rg.Ok.go {r : Rg} (h : r.Ok) : r.go.Ok := ⟨h.mp, h.tb, h.ck.go, h.nd, h.ln, h.ms, h.th, h.sb⟩
theorem Rg.Ok.det {r : Rg} (h : r.Ok) (hs : List Int) : (r.det hs).2.Ok := ⟨h.mp, h.tb.det (E := (r.tb.det hs).1) rfl, h.ck, h.nd, h.ln, h.ms, h.th, h.sb⟩
theorem Rg.Ok.put {r : Rg} (h : r.Ok) (sw : Bool) (x p : Int) : (r.put sw x p).2.2.Ok := by
 unfold Rg.put
 split
 ·exact h
 split
 ·exact h
 ·exact ⟨h.mp, h.tb.put (v := (r.tb.put sw x p).1) (E := (r.tb.put sw x p).2.1) rfl, h.ck, h.nd, h.ln, h.ms, h.th, h.sb⟩
theorem Rg.Ok.load {r : Rg} (h : r.Ok) {E : Int} {ms : List Int} {xs : List In} (hm : E = 0 -> ms.Nodup /\ ∀ m ∈ ms, 0 <= m) : (r.load E ms xs).2.2.Ok := by
 unfold Rg.load
 split
 ·exact h
 rename_i hE
 split
 ·exact h
 rename_i hA
 split
 ·exact h
 rename_i hT
 have hE : E = 0 := by omega
 have hA : ms.all (fun m => decide (m < r.mp)) = true := by simpa using hA
 refine ⟨h.mp, h.tb, h.ck, h.nd, fun n => ?_, fun q hq => ?_, ?_, fun q hq => ?_⟩
 ·show n ∈ r.ln ↔ stP (r.ps ++ [⟨ms, xs, 0, 0⟩]) n = 1
  rw [stP_app, h.ln n, Rg.st_eq]
  by_cases e : n = (r.ps.length : Int) + 1
  ·rw [if_pos e]
   refine ⟨fun g => ?_, fun g => by cases g⟩
   have := (Rg.st_in (r := r) (n := n) (by rw [Rg.st_eq, g]; decide)).2
   omega
  ·rw [if_neg e]
 ·rcases List.mem_append.1 hq with g | g
  ·exact h.ms q g
  ·have e : q = ⟨ms, xs, 0, 0⟩ := by simpa using g
   subst e
   exact ⟨(hm hE).1, fun m hm' => ⟨(hm hE).2 m hm', by have := List.all_eq_true.1 hA m hm'; simpa using this⟩⟩
 ·show ((r.ps ++ [(⟨ms, xs, 0, 0⟩ : Pg)]).filter thereB).length <= 16
  have h16 : r.there < 16 := by omega
  unfold Rg.there at h16
  rw [List.filter_append, List.length_append]
  have : ([(⟨ms, xs, 0, 0⟩ : Pg)]).filter thereB = [(⟨ms, xs, 0, 0⟩ : Pg)] := rfl
  rw [this]
  simp
  omega
 ·rcases List.mem_append.1 hq with g | g
  ·exact h.sb q g
  ·have e : q = ⟨ms, xs, 0, 0⟩ := by simpa using g
   subst e
   exact Nat.zero_le _
theorem filter_set_le {α : Type} {p : α -> Bool} {y : α} : ∀ (l : List α) (i : Nat), (∀ x, l[i]? = some x -> p x = true) -> ((l.set i y).filter p).length <= (l.filter p).length
 | [], i, _ => by simp
 | a :: l, 0, h => by
  have ha : p a = true := h a rfl
  rw [List.set_cons_zero, List.filter_cons_of_pos ha]
  by_cases hy : p y = true
  ·rw [List.filter_cons_of_pos hy]; simp
  ·rw [List.filter_cons_of_neg hy]; simp
 | a :: l, i + 1, h => by
  have ih := filter_set_le (p := p) (y := y) l i (fun x hx => h x hx)
  rw [List.set_cons_succ]
  by_cases ha : p a = true
  ·rw [List.filter_cons_of_pos ha, List.filter_cons_of_pos ha]
   simpa using ih
  ·rw [List.filter_cons_of_neg ha, List.filter_cons_of_neg ha]
   exact ih
theorem setSt_st {ps : List Pg} (hb : ∀ p ∈ ps, p.st <= 2) {p : Int} {s : Nat} (hs : s <= 2) {e : Int} : ∀ q ∈ setSt ps p s e, q.st <= 2 := by
 intro q hq
 rcases List.mem_or_eq_of_mem_set hq with h | h
 ·exact hb q h
 ·subst h; exact hs
theorem setSt_there {ps : List Pg} {p : Int} {s : Nat} {e : Int} (h1 : 1 <= p) (hp : stP ps p < 2) : ((setSt ps p s e).filter thereB).length <= (ps.filter thereB).length := by
 refine filter_set_le _ _ (fun x hx => ?_)
 unfold stP at hp
 rw [if_pos h1, List.getD_eq_getElem?_getD, hx] at hp
 unfold thereB
 exact decide_eq_true hp
theorem stP_le {ps : List Pg} (hb : ∀ p ∈ ps, p.st <= 2) (n : Int) : stP ps n <= 2 := by
 unfold stP
 split
 ·rcases Nat.lt_or_ge (n - 1).toNat ps.length with g | g
  ·rw [List.getD_eq_getElem?_getD, List.getElem?_eq_getElem g]
   exact hb _ (List.getElem_mem _)
  ·rw [List.getD_eq_getElem?_getD, List.getElem?_eq_none g]
   exact Nat.le_refl 2
 ·exact Nat.le_refl 2
theorem Rg.Ok.ret {r : Rg} (h : r.Ok) (p : Int) : (r.ret p).2.2.Ok := by
 unfold Rg.ret
 split
 ·exact h
 rename_i h2
 split
 ·exact h
 rename_i h1
 split
 ·exact h
 obtain ⟨g1, g2⟩ := Rg.st_in h2
 have hle := stP_le h.sb p
 have h0 : stP r.ps p < 2 := by rw [Rg.st_eq] at h2; omega
 have hp : p ∉ r.ln := fun e => h1 ((h.ln p).1 e)
 refine ⟨h.mp, h.tb, h.ck.go, ?_, fun n => ?_, fun q hq => ?_, ?_, setSt_st h.sb (by omega)⟩
 ·refine List.nodup_append.2 ⟨h.nd, by simp, fun a ha b hb => ?_⟩
  have : b = p := by simpa using hb
  subst this
  exact fun e => hp (by rw [<- e]; exact ha)
 ·show n ∈ r.ln ++ [p] ↔ stP (setSt r.ps p 1 _) n = 1
  rw [stP_set g1 g2, List.mem_append, h.ln n, Rg.st_eq]
  by_cases e : n = p
  ·rw [if_pos e]; simp [e]
  ·rw [if_neg e]; simp [e]
 ·obtain ⟨q', hq', e1, -⟩ := setSt_mem g1 g2 hq
  rw [e1]
  exact h.ms q' hq'
 ·exact Nat.le_trans (setSt_there g1 h0) h.th
def goneP (ps : List Pg) (l : List Int) : List Pg := l.foldl (fun ps n => setSt ps n 2 0) ps
theorem goneP_all : ∀ (l : List Int) (ps : List Pg), (∀ n ∈ l, 1 <= n /\ n <= ps.length) -> (∀ p ∈ ps, p.st <= 2) -> l.Nodup -> (∀ n ∈ l, stP ps n < 2) ->
  (goneP ps l).length = ps.length /\ (∀ n, stP (goneP ps l) n = if n ∈ l then 2 else stP ps n) /\ (∀ q ∈ goneP ps l, ∃ q' ∈ ps, q.ms = q'.ms /\ q.xs = q'.xs) /\ (∀ q ∈ goneP ps l, q.st <= 2) /\ ((goneP ps l).filter thereB).length <= (ps.filter thereB).length
 | [], ps, _, hb, _, _ => ⟨rfl, fun n => by simp [goneP], fun q hq => ⟨q, hq, rfl, rfl⟩, hb, Nat.le_refl _⟩
 | m :: l, ps, hl, hb, hn, hs => by
  obtain ⟨g1, g2⟩ := hl m (by simp)
  obtain ⟨hm, hn'⟩ := List.nodup_cons.1 hn
  have e1 : ∀ n, stP (setSt ps m 2 0) n = if n = m then 2 else stP ps n := fun n => stP_set g1 g2 2 0 n
  obtain ⟨i1, i2, i3, i4, i5⟩ := goneP_all l (setSt ps m 2 0) (fun n h => by rw [setSt_len]; exact hl n (List.mem_cons_of_mem _ h)) (setSt_st hb (by omega)) hn' (fun n h => by
   rw [e1 n, if_neg (fun e => hm (by rw [<- e]; exact h))]
   exact hs n (List.mem_cons_of_mem _ h))
  refine ⟨i1.trans (setSt_len _ _ _ _), fun n => ?_, fun q hq => ?_, i4, Nat.le_trans i5 (setSt_there g1 (hs m (by simp)))⟩
  ·show stP (goneP (setSt ps m 2 0) l) n = _
   rw [i2 n, e1 n]
   by_cases h1 : n ∈ l
   ·rw [if_pos h1, if_pos (List.mem_cons_of_mem _ h1)]
   ·rw [if_neg h1]
    by_cases h2 : n = m
    ·rw [if_pos h2, if_pos (by rw [h2]; simp)]
    ·rw [if_neg h2, if_neg (fun e => by rcases List.mem_cons.1 e with e | e; exact h2 e; exact h1 e)]
  ·obtain ⟨q1, h1, a1, a2⟩ := i3 q hq
   obtain ⟨q2, h2, b1, b2⟩ := setSt_mem g1 g2 h1
   exact ⟨q2, h2, a1.trans b1, a2.trans b2⟩
theorem Rg.goes_sub (r : Rg) (most : Int) : (r.goes most).Sublist r.ln := (List.take_sublist _ _).trans List.filter_sublist
theorem Rg.Ok.settle {r : Rg} (h : r.Ok) (most : Int) : (r.settle most).2.Ok := by
 have hsub := r.goes_sub most
 have hin : ∀ n ∈ r.goes most, r.st n = 1 := fun n hn => (h.ln n).1 (hsub.subset hn)
 obtain ⟨i1, i2, i3, i4, i5⟩ := goneP_all (r.goes most) r.ps (fun n hn => Rg.st_in (r := r) (by rw [hin n hn]; decide)) h.sb (h.nd.sublist hsub) (fun n hn => by rw [<- Rg.st_eq, hin n hn]; decide)
 refine ⟨h.mp, h.tb, h.ck, h.nd.filter _, fun n => ?_, fun q hq => ?_, Nat.le_trans i5 h.th, i4⟩
 ·show n ∈ r.ln.filter (fun n => !decide (n ∈ r.goes most)) ↔ stP (goneP r.ps (r.goes most)) n = 1
  rw [i2 n, List.mem_filter, h.ln n, Rg.st_eq]
  by_cases e : n ∈ r.goes most
  ·rw [if_pos e]; simp [e]
  ·rw [if_neg e]; simp [e]
 ·obtain ⟨q', hq', e1, -⟩ := i3 q hq
  rw [e1]
  exact h.ms q' hq'
theorem Rg.live_mem {r : Rg} {n : Int} : n ∈ r.live ↔ r.st n = 0 := by
 unfold Rg.live
 rw [mem_numF, Rg.st_eq]
 unfold stP
 constructor
 ·rintro ⟨k, h1, h2, h3⟩
  rw [if_pos (by omega), show (n - 1).toNat = k by omega]
  exact h2
 ·intro h
  by_cases h1 : 1 <= n
  ·rw [if_pos h1] at h
   refine ⟨(n - 1).toNat, Nat.lt_of_not_le fun g => ?_, h, by omega⟩
   rw [List.getD_eq_getElem?_getD, List.getElem?_eq_none g] at h
   cases h
  ·rw [if_neg h1] at h
   cases h
structure Md where
 um : Value
 uc : Value
 ms : List Int
 xs : List In
def Md.nil : Md := ⟨.slice none 0 0, .slice none 0 0, [], []⟩
structure Pw where
 n : Int
 md : Md
 g : Int
def Pw.nil : Pw := ⟨0, Md.nil, 0⟩
def Pw.hm (p : Pw) : Hm := ⟨p.n, p.md.ms⟩
theorem up_ext : ∀ {a b : List Int}, a.Pairwise (· < ·) -> b.Pairwise (· < ·) -> (∀ x, x ∈ a ↔ x ∈ b) -> a = b
 | [], [], _, _, _ => rfl
 | [], y :: b, _, _, h => by have := (h y).2 (by simp); cases this
 | x :: a, [], _, _, h => by have := (h x).1 (by simp); cases this
 | x :: a, y :: b, ha, hb, h => by
  obtain ⟨ha1, ha2⟩ := List.pairwise_cons.1 ha
  obtain ⟨hb1, hb2⟩ := List.pairwise_cons.1 hb
  have hxy : x = y := by
   rcases List.mem_cons.1 ((h x).1 (by simp)) with e | e
   ·exact e
   ·rcases List.mem_cons.1 ((h y).2 (by simp)) with e2 | e2
    ·exact e2.symm
    ·have := hb1 x e; have := ha1 y e2; omega
  subst hxy
  rw [up_ext ha2 hb2 (fun z => ?_)]
  constructor
  ·intro hz
   rcases List.mem_cons.1 ((h z).1 (List.mem_cons_of_mem _ hz)) with e | e
   ·have := ha1 z hz; omega
   ·exact e
  ·intro hz
   rcases List.mem_cons.1 ((h z).2 (List.mem_cons_of_mem _ hz)) with e | e
   ·have := hb1 z hz; omega
   ·exact e
def pgP (ps : List Pg) (n : Int) : Pg := if 1 <= n then ps.getD (n - 1).toNat Pg.nil else Pg.nil
theorem Rg.pg_eq (r : Rg) (n : Int) : r.pg n = pgP r.ps n := rfl
theorem pgP_app (ps : List Pg) (p : Pg) (n : Int) : pgP (ps ++ [p]) n = if n = (ps.length : Int) + 1 then p else pgP ps n := by
 unfold pgP
 by_cases h1 : 1 <= n
 ·rw [if_pos h1, if_pos h1]
  by_cases e : n = (ps.length : Int) + 1
  ·rw [if_pos e, List.getD_eq_getElem?_getD, List.getElem?_append_right (by omega), show (n - 1).toNat - ps.length = 0 by omega]
   rfl
  ·rw [if_neg e]
   rcases Nat.lt_or_ge (n - 1).toNat ps.length with g | g
   ·rw [List.getD_eq_getElem?_getD, List.getElem?_append_left g, <- List.getD_eq_getElem?_getD]
   ·rw [List.getD_eq_getElem?_getD, List.getElem?_eq_none (by simp; omega), List.getD_eq_getElem?_getD, List.getElem?_eq_none g]
 ·rw [if_neg h1, if_neg h1, if_neg (by omega)]
theorem pgP_set {ps : List Pg} {p : Int} (h1 : 1 <= p) (h2 : p <= ps.length) (s : Nat) (e n : Int) : pgP (setSt ps p s e) n = if n = p then ⟨(pgP ps p).ms, (pgP ps p).xs, s, e⟩ else pgP ps n := by
 unfold pgP setSt
 rw [if_pos h1]
 by_cases hn : 1 <= n
 ·rw [if_pos hn, if_pos hn]
  by_cases g : n = p
  ·subst g
   rw [if_pos rfl, List.getD_eq_getElem?_getD, List.getElem?_set_self (by omega)]
   rfl
  ·rw [if_neg g, List.getD_eq_getElem?_getD, List.getElem?_set_ne (by omega), <- List.getD_eq_getElem?_getD]
 ·rw [if_neg hn, if_neg hn, if_neg (by omega)]
theorem goneP_pg : ∀ (l : List Int) (ps : List Pg), (∀ n ∈ l, 1 <= n /\ n <= ps.length) -> ∀ n, n ∉ l -> pgP (goneP ps l) n = pgP ps n
 | [], ps, _, n, _ => rfl
 | m :: l, ps, hl, n, hn => by
  obtain ⟨g1, g2⟩ := hl m (by simp)
  show pgP (goneP (setSt ps m 2 0) l) n = _
  rw [goneP_pg l _ (fun k h => by rw [setSt_len]; exact hl k (List.mem_cons_of_mem _ h)) n (fun e => hn (List.mem_cons_of_mem _ e)), pgP_set g1 g2, if_neg (fun e => hn (by rw [e]; simp))]
theorem mem_st {r : Rg} {s : Nat} (hs : s < 2) {n : Int} : n ∈ numF s 0 r.ps ↔ r.st n = s := by
 rw [mem_numF, Rg.st_eq]
 unfold stP
 constructor
 ·rintro ⟨k, h1, h2, h3⟩
  rw [if_pos (by omega), show (n - 1).toNat = k by omega]
  exact h2
 ·intro h
  have h2 : Pg.nil.st = 2 := rfl
  by_cases h1 : 1 <= n
  ·rw [if_pos h1] at h
   refine ⟨(n - 1).toNat, Nat.lt_of_not_le fun g => ?_, h, by omega⟩
   rw [List.getD_eq_getElem?_getD, List.getElem?_eq_none g] at h
   have : (2 : Nat) = s := h
   omega
  ·rw [if_neg h1] at h
   omega
theorem numF_len {s : Nat} : ∀ {l : List Pg} {n : Nat}, (numF s n l).length = (l.filter (fun p => decide (p.st = s))).length
 | [], n => rfl
 | p :: l, n => by
  unfold numF
  by_cases hp : p.st = s
  ·rw [if_pos hp, List.length_cons, numF_len, List.filter_cons_of_pos (by simpa using hp), List.length_cons]
  ·rw [if_neg hp, numF_len, List.filter_cons_of_neg (by simpa using hp)]
theorem there_sum : ∀ (l : List Pg), (l.filter thereB).length = (l.filter (fun p => decide (p.st = 0))).length + (l.filter (fun p => decide (p.st = 1))).length
 | [] => rfl
 | p :: l => by
  have ih := there_sum l
  rcases Nat.lt_or_ge p.st 2 with h | h
  ·have e0 : thereB p = true := by unfold thereB; exact decide_eq_true h
   rw [List.filter_cons_of_pos e0]
   rcases (show p.st = 0 ∨ p.st = 1 by omega) with e | e
   ·rw [List.filter_cons_of_pos (by simpa using e), List.filter_cons_of_neg (by simp [e])]
    simp only [List.length_cons]
    omega
   ·rw [List.filter_cons_of_neg (by simp [e]), List.filter_cons_of_pos (by simpa using e)]
    simp only [List.length_cons]
    omega
  ·have e0 : ¬ thereB p = true := by unfold thereB; simp; omega
   rw [List.filter_cons_of_neg e0, List.filter_cons_of_neg (by simp; omega), List.filter_cons_of_neg (by simp; omega)]
   exact ih
structure Rel (r : Rg) (L T : List Pw) (P : Rs_g) : Prop where
 liv : L.map Pw.n = r.live
 ret : T.map Pw.n = r.ln
 mdL : ∀ p ∈ L, (r.pg p.n).ms = p.md.ms /\ (r.pg p.n).xs = p.md.xs
 mdT : ∀ p ∈ T, (r.pg p.n).ms = p.md.ms /\ (r.pg p.n).xs = p.md.xs /\ (r.pg p.n).ep = p.g
 hol : P.Perm ((L ++ T).map Pw.hm)
 pok : Rs_g.Ok r.mp P
section
variable {r : Rg} {L T : List Pw} {P : Rs_g}
theorem Rel.stL (h : Rel r L T P) {p : Pw} (hp : p ∈ L) : r.st p.n = 0 := Rg.live_mem.1 (by rw [<- h.liv]; exact List.mem_map.2 ⟨p, hp, rfl⟩)
theorem Rel.stT (h : Rel r L T P) (hk : r.Ok) {p : Pw} (hp : p ∈ T) : r.st p.n = 1 := (hk.ln _).1 (by rw [<- h.ret]; exact List.mem_map.2 ⟨p, hp, rfl⟩)
theorem getD_memP (l : List Pw) (k : Nat) (h : k < l.length) : l.getD k Pw.nil ∈ l := by simp [List.getD, h]
theorem mem_getDP {l : List Pw} {p : Pw} (h : p ∈ l) : ∃ i, i < l.length /\ l.getD i Pw.nil = p := by
 obtain ⟨i, hi, e⟩ := List.getElem_of_mem h
 exact ⟨i, hi, by simp [List.getD, hi, e]⟩
theorem Rel.findL (h : Rel r L T P) {n : Int} (hn : r.st n = 0) : ∃ i, i < L.length /\ (L.getD i Pw.nil).n = n := by
 have := Rg.live_mem.2 hn
 rw [<- h.liv] at this
 obtain ⟨p, hp, e⟩ := List.mem_map.1 this
 obtain ⟨i, hi, e2⟩ := mem_getDP hp
 exact ⟨i, hi, by rw [e2]; exact e⟩
theorem Rel.findT (h : Rel r L T P) (hk : r.Ok) {n : Int} (hn : r.st n = 1) : ∃ i, i < T.length /\ (T.getD i Pw.nil).n = n := by
 have := (hk.ln n).2 hn
 rw [<- h.ret] at this
 obtain ⟨p, hp, e⟩ := List.mem_map.1 this
 obtain ⟨i, hi, e2⟩ := mem_getDP hp
 exact ⟨i, hi, by rw [e2]; exact e⟩
theorem up_nodup {l : List Int} (h : l.Pairwise (· < ·)) : l.Nodup := h.imp (fun h => by omega)
theorem Rg.live_up (r : Rg) : r.live.Pairwise (· < ·) := numF_up
theorem Rel.ndL (h : Rel r L T P) : (L.map Pw.n).Nodup := by rw [h.liv]; exact up_nodup r.live_up
theorem Rel.ndT (h : Rel r L T P) (hk : r.Ok) : (T.map Pw.n).Nodup := by rw [h.ret]; exact hk.nd
theorem first_one {l : List Pw} (hn : (l.map Pw.n).Nodup) {i : Nat} (hi : i < l.length) : ∀ j, j < i -> (l.getD j Pw.nil).n ≠ (l.getD i Pw.nil).n := by
 intro j hj e
 have h1 : (l.map Pw.n)[j]'(by simp; omega) = (l.map Pw.n)[i]'(by simpa using hi) := by
  simp only [List.getElem_map]
  have a1 : l.getD j Pw.nil = l[j]'(by omega) := by simp [List.getD, show j < l.length by omega]
  have a2 : l.getD i Pw.nil = l[i] := by simp [List.getD, hi]
  rw [<- a1, <- a2]
  exact e
 have := (List.getElem_inj hn).1 h1
 omega
theorem Rel.there (h : Rel r L T P) (hk : r.Ok) : r.there = L.length + T.length := by
 have e1 : L.length = (r.ps.filter (fun p => decide (p.st = 0))).length := by
  have := congrArg List.length h.liv
  rw [List.length_map] at this
  rw [this]
  exact numF_len
 have e2 : T.length = (r.ps.filter (fun p => decide (p.st = 1))).length := by
  have h1 : (numF 1 0 r.ps).Perm r.ln := (List.perm_ext_iff_of_nodup (up_nodup numF_up) hk.nd).2 (fun n => (mem_st (by omega)).trans (hk.ln n).symm)
  have := congrArg List.length h.ret
  rw [List.length_map] at this
  rw [this, <- h1.length_eq]
  exact numF_len
 unfold Rg.there
 rw [there_sum, e1, e2]
theorem Rel.lens (h : Rel r L T P) (hk : r.Ok) : L.length + T.length <= 16 /\ P.length <= 16 := by
 have h1 := h.there hk
 have h2 := hk.th
 have h3 := h.hol.length_eq
 rw [List.length_map, List.length_append] at h3
 omega
theorem Rel.hasP (h : Rel r L T P) (hk : r.Ok) (n : Int) : P.has n = true ↔ r.st n <= 1 := by
 rw [Rs_g.has_iff]
 constructor
 ·rintro ⟨x, hx, e⟩
  obtain ⟨p, hp, e2⟩ := List.mem_map.1 (h.hol.mem_iff.1 hx)
  subst e2
  have e : p.n = n := e
  rcases List.mem_append.1 hp with g | g
  ·rw [<- e, h.stL g]; omega
  ·rw [<- e, h.stT hk g]; omega
 ·intro hn
  rcases (show r.st n = 0 ∨ r.st n = 1 by omega) with e | e
  ·obtain ⟨i, hi, e2⟩ := h.findL e
   exact ⟨(L.getD i Pw.nil).hm, h.hol.mem_iff.2 (List.mem_map.2 ⟨_, List.mem_append_left _ (getD_memP _ _ hi), rfl⟩), e2⟩
  ·obtain ⟨i, hi, e2⟩ := h.findT hk e
   exact ⟨(T.getD i Pw.nil).hm, h.hol.mem_iff.2 (List.mem_map.2 ⟨_, List.mem_append_right _ (getD_memP _ _ hi), rfl⟩), e2⟩
theorem Rg.st_new (r : Rg) : r.st ((r.ps.length : Int) + 1) = 2 := by
 have hx : ¬ r.st ((r.ps.length : Int) + 1) ≠ 2 := fun e => by have := (Rg.st_in e).2; omega
 exact Decidable.of_not_not hx
theorem Rel.drop_new (h : Rel r L T P) (hk : r.Ok) : Rs_g.drop P [(r.ps.length : Int) + 1] = (41, P) := by
 have e1 : P.has ((r.ps.length : Int) + 1) = false := Bool.eq_false_iff.2 fun g => by
  have := (h.hasP hk _).1 g
  rw [r.st_new] at this
  omega
 unfold Rs_g.drop
 rw [if_neg (by simp), if_pos (by simp [e1])]
theorem Rel.hold_new (h : Rel r L T P) (hk : r.Ok) {ms : List Int} (hm : okM_g r.mp ms = true) : Rs_g.hold r.mp P ((r.ps.length : Int) + 1) ms = (0, insH ⟨(r.ps.length : Int) + 1, ms⟩ P) := by
 have e1 : P.has ((r.ps.length : Int) + 1) = false := Bool.eq_false_iff.2 fun g => by
  have := (h.hasP hk _).1 g
  rw [r.st_new] at this
  omega
 unfold Rs_g.hold
 rw [if_neg (by rw [hm]; decide), if_neg (by rw [e1]; decide)]
theorem Rel.load (h : Rel r L T P) (hk : r.Ok) (md : Md) (hm : okM_g r.mp md.ms = true) : Rel ⟨r.mp, r.tb, r.ck, r.ps ++ [⟨md.ms, md.xs, 0, 0⟩], r.ln⟩ (L ++ [⟨(r.ps.length : Int) + 1, md, 0⟩]) T (insH ⟨(r.ps.length : Int) + 1, md.ms⟩ P) := by
 have hnew : ∀ p, p ∈ L ∨ p ∈ T -> p.n ≠ (r.ps.length : Int) + 1 := fun p hp e => by
  have h2 := r.st_new
  rw [<- e] at h2
  rcases hp with g | g
  ·rw [h.stL g] at h2; cases h2
  ·rw [h.stT hk g] at h2; cases h2
 refine ⟨?_, h.ret, fun p hp => ?_, fun p hp => ?_, ?_, ?_⟩
 ·show _ = numF 0 0 (r.ps ++ [⟨md.ms, md.xs, 0, 0⟩])
  have := h.liv
  rw [numF_app, List.map_append, this]
  simp [Rg.live]
 ·rw [Rg.pg_eq]
  show (pgP (r.ps ++ [⟨md.ms, md.xs, 0, 0⟩]) p.n).ms = _ /\ _ = _
  rcases List.mem_append.1 hp with g | g
  ·rw [pgP_app, if_neg (hnew p (.inl g))]
   exact h.mdL p g
  ·have e : p = ⟨(r.ps.length : Int) + 1, md, 0⟩ := by simpa using g
   subst e
   have e2 : pgP (r.ps ++ [⟨md.ms, md.xs, 0, 0⟩]) ((r.ps.length : Int) + 1) = ⟨md.ms, md.xs, 0, 0⟩ := by rw [pgP_app, if_pos rfl]
   show _ /\ (pgP (r.ps ++ [⟨md.ms, md.xs, 0, 0⟩]) ((r.ps.length : Int) + 1)).xs = _
   rw [e2]
   exact ⟨rfl, rfl⟩
 ·rw [Rg.pg_eq]
  show (pgP (r.ps ++ [⟨md.ms, md.xs, 0, 0⟩]) p.n).ms = _ /\ _
  rw [pgP_app, if_neg (hnew p (.inr hp))]
  exact h.mdT p hp
 ·refine (insH_perm _ _).trans ?_
  have h1 := h.hol.cons ⟨(r.ps.length : Int) + 1, md.ms⟩
  refine h1.trans ?_
  rw [List.append_assoc, List.map_append, List.map_append, List.map_append]
  have : [(⟨(r.ps.length : Int) + 1, md, 0⟩ : Pw)].map Pw.hm = [⟨(r.ps.length : Int) + 1, md.ms⟩] := rfl
  rw [this]
  exact (List.perm_middle (a := (⟨(r.ps.length : Int) + 1, md.ms⟩ : Hm)) (l₁ := L.map Pw.hm) (l₂ := T.map Pw.hm)).symm
 ·exact Rs_g.Ok.hold h.pok (h.hold_new hk hm)
theorem perm_erase : ∀ {l : List Pw} {i : Nat}, i < l.length -> l.Perm (l.getD i Pw.nil :: l.eraseIdx i)
 | [], i, h => by simp at h
 | a :: l, 0, _ => List.Perm.refl _
 | a :: l, i + 1, h => by
  have ih := perm_erase (l := l) (i := i) (by simpa using h)
  exact (ih.cons a).trans (List.Perm.swap _ _ _)
theorem mem_erase_iff {l : List Pw} (hn : (l.map Pw.n).Nodup) {i : Nat} (hi : i < l.length) {x : Int} : x ∈ (l.eraseIdx i).map Pw.n ↔ x ∈ l.map Pw.n /\ x ≠ (l.getD i Pw.nil).n := by
 have hp : l.Perm (l.getD i Pw.nil :: l.eraseIdx i) := perm_erase hi
 have hq := hp.map Pw.n
 rw [List.map_cons] at hq
 have hn2 := hq.nodup_iff.1 hn
 obtain ⟨a1, a2⟩ := List.nodup_cons.1 hn2
 rw [hq.mem_iff, List.mem_cons]
 constructor
 ·exact fun e => ⟨.inr e, fun g => a1 (by rw [<- g]; exact e)⟩
 ·rintro ⟨e | e, g⟩
  ·exact absurd e g
  ·exact e
theorem Rel.retire (h : Rel r L T P) (hk : r.Ok) {i : Nat} (hi : i < L.length) (e : Int) : Rel ⟨r.mp, r.tb, r.ck.go, setSt r.ps (L.getD i Pw.nil).n 1 e, r.ln ++ [(L.getD i Pw.nil).n]⟩ (L.eraseIdx i) (T ++ [⟨(L.getD i Pw.nil).n, (L.getD i Pw.nil).md, e⟩]) P := by
 have hmem := getD_memP L i hi
 have hst := h.stL hmem
 obtain ⟨g1, g2⟩ := Rg.st_in (r := r) (n := (L.getD i Pw.nil).n) (by rw [hst]; decide)
 have hpg : ∀ n, pgP (setSt r.ps (L.getD i Pw.nil).n 1 e) n = _ := fun n => pgP_set g1 g2 1 e n
 have hL : ∀ q ∈ L.eraseIdx i, q.n ≠ (L.getD i Pw.nil).n := fun q hq => ((mem_erase_iff h.ndL hi).1 (List.mem_map.2 ⟨q, hq, rfl⟩)).2
 have hT : ∀ q ∈ T, q.n ≠ (L.getD i Pw.nil).n := fun q hq e => by
  have := h.stT hk hq
  rw [e, hst] at this
  cases this
 refine ⟨?_, ?_, fun q hq => ?_, fun q hq => ?_, ?_, h.pok⟩
 ·refine up_ext ?_ numF_up (fun x => ?_)
  ·have : ((L.eraseIdx i).map Pw.n).Sublist (L.map Pw.n) := (List.eraseIdx_sublist ..).map _
   refine List.Pairwise.sublist this ?_
   rw [h.liv]; exact r.live_up
  ·rw [mem_erase_iff h.ndL hi, h.liv, Rg.live_mem, Rg.st_eq]
   have := @mem_st ⟨r.mp, r.tb, r.ck.go, setSt r.ps (L.getD i Pw.nil).n 1 e, r.ln ++ [(L.getD i Pw.nil).n]⟩ 0 (by omega) x
   refine Iff.trans ?_ this.symm
   rw [Rg.st_eq]
   show _ ↔ stP (setSt r.ps (L.getD i Pw.nil).n 1 e) x = 0
   rw [stP_set g1 g2]
   by_cases hx : x = (L.getD i Pw.nil).n
   ·rw [if_pos hx]
    exact ⟨fun e => absurd hx e.2, fun e => by cases e⟩
   ·rw [if_neg hx]
    exact ⟨fun e => e.1, fun e => ⟨e, hx⟩⟩
 ·rw [List.map_append, h.ret]; rfl
 ·rw [Rg.pg_eq]
  show (pgP (setSt r.ps (L.getD i Pw.nil).n 1 e) q.n).ms = _ /\ (pgP (setSt r.ps (L.getD i Pw.nil).n 1 e) q.n).xs = _
  rw [hpg, if_neg (hL q hq)]
  exact h.mdL q ((List.eraseIdx_sublist ..).subset hq)
 ·rw [Rg.pg_eq]
  show (pgP (setSt r.ps (L.getD i Pw.nil).n 1 e) q.n).ms = _ /\ (pgP (setSt r.ps (L.getD i Pw.nil).n 1 e) q.n).xs = _ /\ (pgP (setSt r.ps (L.getD i Pw.nil).n 1 e) q.n).ep = _
  rcases List.mem_append.1 hq with g | g
  ·rw [hpg, if_neg (hT q g)]
   exact h.mdT q g
  ·have e2 : q = ⟨(L.getD i Pw.nil).n, (L.getD i Pw.nil).md, e⟩ := by simpa using g
   subst e2
   rw [hpg, if_pos rfl]
   have := h.mdL _ hmem
   exact ⟨this.1, this.2, rfl⟩
 ·refine h.hol.trans ?_
  have hp : L.Perm (L.getD i Pw.nil :: L.eraseIdx i) := perm_erase hi
  have h1 : ((L ++ T).map Pw.hm).Perm (((L.getD i Pw.nil :: L.eraseIdx i) ++ T).map Pw.hm) := (hp.append_right T).map _
  refine h1.trans ?_
  rw [List.map_append, List.map_append, List.map_append, List.map_cons]
  have e2 : ([⟨(L.getD i Pw.nil).n, (L.getD i Pw.nil).md, e⟩] : List Pw).map Pw.hm = [(L.getD i Pw.nil).hm] := rfl
  rw [e2, <- List.append_assoc, List.cons_append]
  exact (List.perm_append_singleton _ _).symm
def Rg.gJ (r : Rg) (most : Int) (j : Nat) : List Int := ((r.ln.take j).filter r.safeP).take most.toNat
theorem Rg.gJ_zero (r : Rg) (most : Int) : r.gJ most 0 = [] := by simp [Rg.gJ]
theorem Rg.gJ_all (r : Rg) (most : Int) {j : Nat} (hj : r.ln.length <= j) : r.gJ most j = r.goes most := by unfold Rg.gJ Rg.goes; rw [List.take_of_length_le hj]
theorem Rg.gJ_sub (r : Rg) (most : Int) (j : Nat) : (r.gJ most j).Sublist (r.ln.take j) := (List.take_sublist _ _).trans List.filter_sublist
theorem Rg.gJ_stay {r : Rg} {most : Int} {j : Nat} (hj : j < r.ln.length) (h : most <= (r.gJ most j).length ∨ r.safeP (r.ln.getD j 0) = false) : r.gJ most (j + 1) = r.gJ most j := by
 unfold Rg.gJ at h ⊢
 have e : r.ln.getD j 0 = r.ln[j] := by simp [List.getD, hj]
 rw [e] at h
 rw [List.take_succ_eq_append_getElem hj, List.filter_append]
 cases hs : r.safeP r.ln[j] with
 | false => simp [hs]
 | true =>
  rw [hs] at h
  rcases h with h | h
  ·rw [List.length_take] at h
   rw [List.take_append_of_le_length (by omega)]
  ·cases h
theorem Rg.gJ_more {r : Rg} {most : Int} {j : Nat} (hj : j < r.ln.length) (h : ¬ most <= (r.gJ most j).length) (hs : r.safeP (r.ln.getD j 0) = true) : r.gJ most (j + 1) = r.gJ most j ++ [r.ln.getD j 0] := by
 unfold Rg.gJ at h ⊢
 have e : r.ln.getD j 0 = r.ln[j] := by simp [List.getD, hj]
 rw [e] at hs ⊢
 rw [List.length_take] at h
 have h2 : ((r.ln.take j).filter r.safeP).length < most.toNat := by omega
 rw [List.take_succ_eq_append_getElem hj, List.filter_append, List.take_of_length_le (l := (r.ln.take j).filter r.safeP) (by omega)]
 have : [r.ln[j]].filter r.safeP = [r.ln[j]] := by simp [hs]
 rw [this, List.take_of_length_le]
 simp
 omega
def stJ (r : Rg) (T : List Pw) (most : Int) (j : Nat) : List Pw := (T.take j).filter (fun p => !decide (p.n ∈ r.gJ most j))
theorem Rel.lnT (h : Rel r L T P) : r.ln.length = T.length := by rw [<- h.ret, List.length_map]
theorem Rel.lnAt (h : Rel r L T P) {j : Nat} (hj : j < T.length) : r.ln.getD j 0 = (T.getD j Pw.nil).n := by
 rw [<- h.ret]; simp [List.getD, hj]
theorem Rel.notJ (h : Rel r L T P) (hk : r.Ok) (most : Int) {j : Nat} (hj : j < T.length) : (T.getD j Pw.nil).n ∉ r.gJ most j := fun e => by
 have h1 := (r.gJ_sub most j).subset e
 obtain ⟨k, hk1, hk2⟩ := List.getElem_of_mem h1
 rw [List.length_take, h.lnT] at hk1
 have hkj : k < j := by omega
 refine first_one (h.ndT hk) hj k hkj ?_
 have h3 := h.lnAt (j := k) (by omega)
 rw [<- h3, <- hk2, List.getElem_take]
 have : r.ln.getD k 0 = r.ln[k]'(by rw [h.lnT]; omega) := by simp [List.getD, show k < r.ln.length by rw [h.lnT]; omega]
 rw [this]
theorem Rel.stJ_stay (h : Rel r L T P) (hk : r.Ok) {most : Int} {j : Nat} (hj : j < T.length) (e : r.gJ most (j + 1) = r.gJ most j) : stJ r T most (j + 1) = stJ r T most j ++ [T.getD j Pw.nil] := by
 unfold stJ
 have e2 : T.getD j Pw.nil = T[j] := by simp [List.getD, hj]
 have h2 := h.notJ hk most hj
 rw [e2] at h2 ⊢
 rw [e, List.take_succ_eq_append_getElem hj, List.filter_append]
 congr 1
 simp [h2]
theorem Rel.stJ_more (h : Rel r L T P) (hk : r.Ok) {most : Int} {j : Nat} (hj : j < T.length) (e : r.gJ most (j + 1) = r.gJ most j ++ [(T.getD j Pw.nil).n]) : stJ r T most (j + 1) = stJ r T most j := by
 unfold stJ
 have e2 : T.getD j Pw.nil = T[j] := by simp [List.getD, hj]
 rw [e, List.take_succ_eq_append_getElem hj, List.filter_append]
 have h3 : [T[j]].filter (fun p => !decide (p.n ∈ r.gJ most j ++ [(T.getD j Pw.nil).n])) = [] := by rw [e2]; simp
 rw [h3, List.append_nil]
 refine List.filter_congr (fun p hp => ?_)
 have hne : p.n ≠ (T.getD j Pw.nil).n := by
  obtain ⟨k, hk1, hk2⟩ := List.getElem_of_mem hp
  rw [List.length_take] at hk1
  rw [List.getElem_take] at hk2
  have := first_one (h.ndT hk) hj k (by omega)
  have e3 : T.getD k Pw.nil = T[k]'(by omega) := by simp [List.getD, show k < T.length by omega]
  rw [e3, hk2] at this
  exact this
 generalize (T.getD j Pw.nil).n = y at hne
 simp [hne]
def PJ (r : Rg) (L T : List Pw) (most : Int) (j : Nat) (Q : Rs_g) : Prop := Q.Perm (((L ++ T).filter (fun p => !decide (p.n ∈ r.gJ most j))).map Pw.hm) /\ Rs_g.Ok r.mp Q /\ Q.length <= 16
theorem Rel.PJ_zero (h : Rel r L T P) (hk : r.Ok) (most : Int) : PJ r L T most 0 P := by
 refine ⟨?_, h.pok, (h.lens hk).2⟩
 rw [Rg.gJ_zero, List.filter_eq_self.2 (fun p _ => by simp)]
 exact h.hol
theorem Rel.PJ_more (h : Rel r L T P) (hk : r.Ok) {most : Int} {j : Nat} {Q : Rs_g} (hj : j < T.length) (hQ : PJ r L T most j Q) (e : r.gJ most (j + 1) = r.gJ most j ++ [(T.getD j Pw.nil).n]) :
  Rs_g.drop Q [(T.getD j Pw.nil).n] = (0, Q.filter (outP [(T.getD j Pw.nil).n])) /\ PJ r L T most (j + 1) (Q.filter (outP [(T.getD j Pw.nil).n])) := by
 obtain ⟨h1, h2, h3⟩ := hQ
 have hhas : Q.has (T.getD j Pw.nil).n = true := by
  refine Rs_g.has_iff.2 ⟨(T.getD j Pw.nil).hm, h1.mem_iff.2 (List.mem_map.2 ⟨_, List.mem_filter.2 ⟨List.mem_append_right _ (getD_memP _ _ hj), ?_⟩, rfl⟩), rfl⟩
  simpa using h.notJ hk most hj
 refine ⟨?_, ?_, h2.filter _, Nat.le_trans (List.length_filter_le _ _) h3⟩
 ·unfold Rs_g.drop
  rw [if_neg (by simp), if_neg (by simp only [List.all_cons, List.all_nil, hhas]; decide)]
 ·refine (h1.filter _).trans ?_
  rw [List.filter_map, List.filter_filter, e]
  refine List.Perm.of_eq ?_
  congr 1
  refine List.filter_congr (fun p _ => ?_)
  show (outP [(T.getD j Pw.nil).n] p.hm && !decide (p.n ∈ r.gJ most j)) = _
  unfold outP
  show (!decide (p.n ∈ [(T.getD j Pw.nil).n]) && _) = _
  simp [Bool.and_comm]
theorem Rel.settle (h : Rel r L T P) (hk : r.Ok) {most : Int} {Q : Rs_g} (hQ : PJ r L T most T.length Q) : Rel (r.settle most).2 L (stJ r T most T.length) Q := by
 have hg : r.gJ most T.length = r.goes most := r.gJ_all most (by rw [h.lnT]; exact Nat.le_refl _)
 obtain ⟨q1, q2, q3⟩ := hQ
 rw [hg] at q1
 have hsub := r.goes_sub most
 have hin : ∀ n ∈ r.goes most, r.st n = 1 := fun n hn => (hk.ln n).1 (hsub.subset hn)
 have hrg : ∀ n ∈ r.goes most, 1 <= n /\ n <= r.ps.length := fun n hn => Rg.st_in (r := r) (by rw [hin n hn]; decide)
 obtain ⟨i1, i2, i3, i4, i5⟩ := goneP_all (r.goes most) r.ps hrg hk.sb (hk.nd.sublist hsub) (fun n hn => by rw [<- Rg.st_eq, hin n hn]; decide)
 have hpg : ∀ n, n ∉ r.goes most -> pgP (goneP r.ps (r.goes most)) n = pgP r.ps n := fun n hn => goneP_pg _ _ hrg n hn
 have hstj : stJ r T most T.length = T.filter (fun p => !decide (p.n ∈ r.goes most)) := by unfold stJ; rw [hg, List.take_of_length_le (Nat.le_refl _)]
 have hLn : ∀ p ∈ L, p.n ∉ r.goes most := fun p hp e => by
  have := hin _ e
  rw [h.stL hp] at this
  cases this
 refine ⟨?_, ?_, fun p hp => ?_, fun p hp => ?_, ?_, q2⟩
 ·refine up_ext (by rw [h.liv]; exact r.live_up) numF_up (fun x => ?_)
  rw [h.liv, Rg.live_mem]
  refine Iff.trans ?_ (@mem_st (r.settle most).2 0 (by omega) x).symm
  rw [Rg.st_eq, Rg.st_eq]
  show _ ↔ stP (goneP r.ps (r.goes most)) x = 0
  rw [i2 x]
  by_cases e : x ∈ r.goes most
  ·have h5 := hin x e
   rw [Rg.st_eq] at h5
   rw [if_pos e, h5]
   simp
  ·rw [if_neg e]
 ·rw [hstj]
  show _ = r.ln.filter _
  rw [<- h.ret, List.filter_map]
  rfl
 ·rw [Rg.pg_eq]
  show (pgP (goneP r.ps (r.goes most)) p.n).ms = _ /\ (pgP (goneP r.ps (r.goes most)) p.n).xs = _
  rw [hpg _ (hLn p hp)]
  exact h.mdL p hp
 ·rw [hstj] at hp
  obtain ⟨hp, hp2⟩ := List.mem_filter.1 hp
  rw [Rg.pg_eq]
  show (pgP (goneP r.ps (r.goes most)) p.n).ms = _ /\ (pgP (goneP r.ps (r.goes most)) p.n).xs = _ /\ (pgP (goneP r.ps (r.goes most)) p.n).ep = _
  rw [hpg _ (by simpa using hp2)]
  exact h.mdT p hp
 ·refine q1.trans (List.Perm.of_eq ?_)
  rw [hstj, List.filter_append, List.filter_eq_self.2 (fun p hp => by simpa using hLn p hp)]
theorem Rel.same (h : Rel r L T P) (tb : Tb) (ck : Ck) : Rel ⟨r.mp, tb, ck, r.ps, r.ln⟩ L T P := ⟨h.liv, h.ret, h.mdL, h.mdT, h.hol, h.pok⟩
theorem Rel.new (hh m k : Nat) : Rel (Rg.new hh m k) [] [] [] := ⟨rfl, rfl, fun p hp => (by cases hp), fun p hp => (by cases hp), List.Perm.refl _, Rs_g.Ok.nil m⟩
end
end Go.Proofs.YtlkdniglaldilaaGreat
