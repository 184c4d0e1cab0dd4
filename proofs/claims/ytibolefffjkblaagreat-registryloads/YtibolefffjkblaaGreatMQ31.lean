/-
  X24Plain
  X24Ok
  X24Rel
-/
import Derived.Test.YtibolefffjkblaaGreatMQ22
import Derived.Test.YtibolefffjkblaaGreatMQ16
namespace Go.Proofs.YtibolefffjkblaaGreat
set_option linter.unusedVariables false
set_option linter.unusedSimpArgs false
structure Pg where
 ms : List Int
 xs : List In
 st : Nat
 ep : Int
def Pg.nil : Pg := ⟨[], [], 2, 0⟩
structure Rg where
 mp : Nat
 tb : Tb
 ck : Ck
 ps : List Pg
 ln : List Int
def Rg.new (h m k : Nat) : Rg := ⟨m, Tb.new h, Ck.new k, [], []⟩
def Rg.pg (r : Rg) (n : Int) : Pg := if 1 <= n then r.ps.getD (n - 1).toNat Pg.nil else Pg.nil
def Rg.st (r : Rg) (n : Int) : Nat := (r.pg n).st
def thereB (p : Pg) : Bool := decide (p.st < 2)
def Rg.there (r : Rg) : Nat := (r.ps.filter thereB).length
def Rg.load (r : Rg) (E : Int) (ms : List Int) (xs : List In) : Int × Int × Rg :=
 if E ≠ 0 then (0, E, r) else if ms.all (fun m => decide (m < r.mp)) = false then (0, 41, r) else if 16 <= r.there then (0, 40, r)
 else (r.ps.length + 1, 0, ⟨r.mp, r.tb, r.ck, r.ps ++ [⟨ms, xs, 0, 0⟩], r.ln⟩)
def Rg.put (r : Rg) (sw : Bool) (h p : Int) : Int × Int × Rg :=
 if r.tb.has h = false then (0, 2, r) else if r.st p ≠ 0 then (0, 41, r) else ((r.tb.put sw h p).1, (r.tb.put sw h p).2.1, ⟨r.mp, (r.tb.put sw h p).2.2, r.ck, r.ps, r.ln⟩)
def numF (s : Nat) : Nat -> List Pg -> List Int
 | _, [] => []
 | n, p :: l => if p.st = s then ((n : Int) + 1) :: numF s (n + 1) l else numF s (n + 1) l
def Rg.live (r : Rg) : List Int := numF 0 0 r.ps
theorem mem_numF {s : Nat} {x : Int} : ∀ {l : List Pg} {n : Nat}, x ∈ numF s n l ↔ ∃ k, k < l.length /\ (l.getD k Pg.nil).st = s /\ x = (n : Int) + k + 1
 | [], n => by simp [numF]
 | p :: l, n => by
  have ih := @mem_numF s x l (n + 1)
  unfold numF
  constructor
  ·intro h
   by_cases hp : p.st = s
   ·rw [if_pos hp] at h
    rcases List.mem_cons.1 h with h | h
    ·exact ⟨0, by simp, hp, by omega⟩
    ·obtain ⟨k, h1, h2, h3⟩ := ih.1 h
     exact ⟨k + 1, by simpa using h1, h2, by omega⟩
   ·rw [if_neg hp] at h
    obtain ⟨k, h1, h2, h3⟩ := ih.1 h
    exact ⟨k + 1, by simpa using h1, h2, by omega⟩
  ·rintro ⟨k, h1, h2, h3⟩
   cases k with
   | zero =>
    have hp : p.st = s := h2
    rw [if_pos hp]
    exact List.mem_cons.2 (.inl (by omega))
   | succ k =>
    have : x ∈ numF s (n + 1) l := ih.2 ⟨k, by simpa using h1, h2, by omega⟩
    by_cases hp : p.st = s
    ·rw [if_pos hp]; exact List.mem_cons_of_mem _ this
    ·rw [if_neg hp]; exact this
theorem numF_up {s : Nat} : ∀ {l : List Pg} {n : Nat}, (numF s n l).Pairwise (· < ·)
 | [], n => List.Pairwise.nil
 | p :: l, n => by
  unfold numF
  by_cases hp : p.st = s
  ·rw [if_pos hp]
   refine List.pairwise_cons.2 ⟨fun x hx => ?_, numF_up⟩
   obtain ⟨k, _, _, h⟩ := mem_numF.1 hx
   omega
  ·rw [if_neg hp]; exact numF_up
theorem numF_app {s : Nat} : ∀ {l : List Pg} {n : Nat} (q : Pg), numF s n (l ++ [q]) = numF s n l ++ (if q.st = s then [((n + l.length : Nat) : Int) + 1] else [])
 | [], n, q => by simp [numF]
 | p :: l, n, q => by
  have ih := @numF_app s l (n + 1) q
  rw [List.cons_append]
  unfold numF
  rw [ih, show n + 1 + l.length = n + (p :: l).length by simp; omega]
  by_cases hp : p.st = s
  ·rw [if_pos hp, if_pos hp]; rfl
  ·rw [if_neg hp, if_neg hp]
structure Rg.Ok (r : Rg) : Prop where
 mp : r.mp <= 4
 tb : r.tb.Ok
 ck : r.ck.Ok
 nd : r.ln.Nodup
 ln : ∀ n, n ∈ r.ln ↔ r.st n = 1
 ms : ∀ p ∈ r.ps, p.ms.Nodup /\ ∀ m ∈ p.ms, 0 <= m /\ m < r.mp
 th : r.there <= 16
 sb : ∀ p ∈ r.ps, p.st <= 2
theorem Rg.st_in {r : Rg} {n : Int} (h : r.st n ≠ 2) : 1 <= n /\ n <= r.ps.length := by
 unfold Rg.st Rg.pg at h
 by_cases h1 : 1 <= n
 ·rw [if_pos h1] at h
  refine ⟨h1, Int.not_lt.1 fun g => h ?_⟩
  rw [List.getD_eq_getElem?_getD, List.getElem?_eq_none (by omega)]
  rfl
 ·rw [if_neg h1] at h
  exact absurd rfl h
theorem Rg.Ok.new {h m k : Nat} (h1 : 1 <= h) (h2 : h <= 4) (hm : m <= 4) (h3 : 1 <= k) (h4 : k <= 4) : (Rg.new h m k).Ok := by
 refine ⟨hm, Tb.Ok.new h1 h2, Ck.Ok.new h3 h4, List.nodup_nil, fun n => ⟨fun e => (by cases e), fun e => ?_⟩, fun p hp => (by cases hp), Nat.zero_le _, fun p hp => (by cases hp)⟩
 have : (Rg.new h m k).st n = 2 := by
  unfold Rg.st Rg.pg
  split <;> rfl
 rw [this] at e
 cases e
def stP (ps : List Pg) (n : Int) : Nat := (if 1 <= n then ps.getD (n - 1).toNat Pg.nil else Pg.nil).st
theorem Rg.st_eq (r : Rg) (n : Int) : r.st n = stP r.ps n := rfl
theorem stP_app (ps : List Pg) (p : Pg) (n : Int) : stP (ps ++ [p]) n = if n = (ps.length : Int) + 1 then p.st else stP ps n := by
 unfold stP
 by_cases h1 : 1 <= n
 ·rw [if_pos h1, if_pos h1]
  by_cases e : n = (ps.length : Int) + 1
  ·rw [if_pos e, List.getD_eq_getElem?_getD, List.getElem?_append_right (by omega), show (n - 1).toNat - ps.length = 0 by omega]
   rfl
  ·rw [if_neg e]
   rcases Nat.lt_or_ge (n - 1).toNat ps.length with g | g
   ·rw [List.getD_eq_getElem?_getD, List.getElem?_append_left g, <- List.getD_eq_getElem?_getD]
   ·rw [List.getD_eq_getElem?_getD, List.getElem?_eq_none (by simp; omega), List.getD_eq_getElem?_getD, List.getElem?_eq_none g]
 ·rw [if_neg h1, if_neg h1, if_neg (by omega)]
theorem Rg.Ok.put {r : Rg} (h : r.Ok) (sw : Bool) (x p : Int) : (r.put sw x p).2.2.Ok := by
 unfold Rg.put
 split
 ·exact h
 split
 ·exact h
 ·exact ⟨h.mp, h.tb.put (v := (r.tb.put sw x p).1) (E := (r.tb.put sw x p).2.1) rfl, h.ck, h.nd, h.ln, h.ms, h.th, h.sb⟩
theorem Rg.Ok.load {r : Rg} (h : r.Ok) {E : Int} {ms : List Int} {xs : List In} (hm : E = 0 -> ms.Nodup /\ ∀ m ∈ ms, 0 <= m) : (r.load E ms xs).2.2.Ok := by
 unfold Rg.load
 split
 ·exact h
 rename_i hE
 split
 ·exact h
 rename_i hA
 split
 ·exact h
 rename_i hT
 have hE : E = 0 := by omega
 have hA : ms.all (fun m => decide (m < r.mp)) = true := by simpa using hA
 refine ⟨h.mp, h.tb, h.ck, h.nd, fun n => ?_, fun q hq => ?_, ?_, fun q hq => ?_⟩
 ·show n ∈ r.ln ↔ stP (r.ps ++ [⟨ms, xs, 0, 0⟩]) n = 1
  rw [stP_app, h.ln n, Rg.st_eq]
  by_cases e : n = (r.ps.length : Int) + 1
  ·rw [if_pos e]
   refine ⟨fun g => ?_, fun g => by cases g⟩
   have := (Rg.st_in (r := r) (n := n) (by rw [Rg.st_eq, g]; decide)).2
   omega
  ·rw [if_neg e]
 ·rcases List.mem_append.1 hq with g | g
  ·exact h.ms q g
  ·have e : q = ⟨ms, xs, 0, 0⟩ := by simpa using g
   subst e
   exact ⟨(hm hE).1, fun m hm' => ⟨(hm hE).2 m hm', by have := List.all_eq_true.1 hA m hm'; simpa using this⟩⟩
 ·show ((r.ps ++ [(⟨ms, xs, 0, 0⟩ : Pg)]).filter thereB).length <= 16
  have h16 : r.there < 16 := by omega
  unfold Rg.there at h16
  rw [List.filter_append, List.length_append]
  have : ([(⟨ms, xs, 0, 0⟩ : Pg)]).filter thereB = [(⟨ms, xs, 0, 0⟩ : Pg)] := rfl
  rw [this]
  simp
  omega
 ·rcases List.mem_append.1 hq with g | g
  ·exact h.sb q g
  ·have e : q = ⟨ms, xs, 0, 0⟩ := by simpa using g
   subst e
   exact Nat.zero_le _
theorem stP_le {ps : List Pg} (hb : ∀ p ∈ ps, p.st <= 2) (n : Int) : stP ps n <= 2 := by
 unfold stP
 split
 ·rcases Nat.lt_or_ge (n - 1).toNat ps.length with g | g
  ·rw [List.getD_eq_getElem?_getD, List.getElem?_eq_getElem g]
   exact hb _ (List.getElem_mem _)
  ·rw [List.getD_eq_getElem?_getD, List.getElem?_eq_none g]
   exact Nat.le_refl 2
 ·exact Nat.le_refl 2
theorem Rg.live_mem {r : Rg} {n : Int} : n ∈ r.live ↔ r.st n = 0 := by
 unfold Rg.live
 rw [mem_numF, Rg.st_eq]
 unfold stP
 constructor
 ·rintro ⟨k, h1, h2, h3⟩
  rw [if_pos (by omega), show (n - 1).toNat = k by omega]
  exact h2
 ·intro h
  by_cases h1 : 1 <= n
  ·rw [if_pos h1] at h
   refine ⟨(n - 1).toNat, Nat.lt_of_not_le fun g => ?_, h, by omega⟩
   rw [List.getD_eq_getElem?_getD, List.getElem?_eq_none g] at h
   cases h
  ·rw [if_neg h1] at h
   cases h
structure Md where
 um : Value
 uc : Value
 ms : List Int
 xs : List In
def Md.nil : Md := ⟨.slice none 0 0, .slice none 0 0, [], []⟩
structure Pw where
 n : Int
 md : Md
 g : Int
def Pw.nil : Pw := ⟨0, Md.nil, 0⟩
def Pw.hm (p : Pw) : Hm := ⟨p.n, p.md.ms⟩
def pgP (ps : List Pg) (n : Int) : Pg := if 1 <= n then ps.getD (n - 1).toNat Pg.nil else Pg.nil
theorem Rg.pg_eq (r : Rg) (n : Int) : r.pg n = pgP r.ps n := rfl
theorem pgP_app (ps : List Pg) (p : Pg) (n : Int) : pgP (ps ++ [p]) n = if n = (ps.length : Int) + 1 then p else pgP ps n := by
 unfold pgP
 by_cases h1 : 1 <= n
 ·rw [if_pos h1, if_pos h1]
  by_cases e : n = (ps.length : Int) + 1
  ·rw [if_pos e, List.getD_eq_getElem?_getD, List.getElem?_append_right (by omega), show (n - 1).toNat - ps.length = 0 by omega]
   rfl
  ·rw [if_neg e]
   rcases Nat.lt_or_ge (n - 1).toNat ps.length with g | g
   ·rw [List.getD_eq_getElem?_getD, List.getElem?_append_left g, <- List.getD_eq_getElem?_getD]
   ·rw [List.getD_eq_getElem?_getD, List.getElem?_eq_none (by simp; omega), List.getD_eq_getElem?_getD, List.getElem?_eq_none g]
 ·rw [if_neg h1, if_neg h1, if_neg (by omega)]
theorem mem_st {r : Rg} {s : Nat} (hs : s < 2) {n : Int} : n ∈ numF s 0 r.ps ↔ r.st n = s := by
 rw [mem_numF, Rg.st_eq]
 unfold stP
 constructor
 ·rintro ⟨k, h1, h2, h3⟩
  rw [if_pos (by omega), show (n - 1).toNat = k by omega]
  exact h2
 ·intro h
  have h2 : Pg.nil.st = 2 := rfl
  by_cases h1 : 1 <= n
  ·rw [if_pos h1] at h
   refine ⟨(n - 1).toNat, Nat.lt_of_not_le fun g => ?_, h, by omega⟩
   rw [List.getD_eq_getElem?_getD, List.getElem?_eq_none g] at h
   have : (2 : Nat) = s := h
   omega
  ·rw [if_neg h1] at h
   omega
theorem numF_len {s : Nat} : ∀ {l : List Pg} {n : Nat}, (numF s n l).length = (l.filter (fun p => decide (p.st = s))).length
 | [], n => rfl
 | p :: l, n => by
  unfold numF
  by_cases hp : p.st = s
  ·rw [if_pos hp, List.length_cons, numF_len, List.filter_cons_of_pos (by simpa using hp), List.length_cons]
  ·rw [if_neg hp, numF_len, List.filter_cons_of_neg (by simpa using hp)]
theorem there_sum : ∀ (l : List Pg), (l.filter thereB).length = (l.filter (fun p => decide (p.st = 0))).length + (l.filter (fun p => decide (p.st = 1))).length
 | [] => rfl
 | p :: l => by
  have ih := there_sum l
  rcases Nat.lt_or_ge p.st 2 with h | h
  ·have e0 : thereB p = true := by unfold thereB; exact decide_eq_true h
   rw [List.filter_cons_of_pos e0]
   rcases (show p.st = 0 ∨ p.st = 1 by omega) with e | e
   ·rw [List.filter_cons_of_pos (by simpa using e), List.filter_cons_of_neg (by simp [e])]
    simp only [List.length_cons]
    omega
   ·rw [List.filter_cons_of_neg (by simp [e]), List.filter_cons_of_pos (by simpa using e)]
    simp only [List.length_cons]
    omega
  ·have e0 : ¬ thereB p = true := by unfold thereB; simp; omega
   rw [List.filter_cons_of_neg e0, List.filter_cons_of_neg (by simp; omega), List.filter_cons_of_neg (by simp; omega)]
   exact ih
structure Rel (r : Rg) (L T : List Pw) (P : Rs_g) : Prop where
 liv : L.map Pw.n = r.live
 ret : T.map Pw.n = r.ln
 mdL : ∀ p ∈ L, (r.pg p.n).ms = p.md.ms /\ (r.pg p.n).xs = p.md.xs
 mdT : ∀ p ∈ T, (r.pg p.n).ms = p.md.ms /\ (r.pg p.n).xs = p.md.xs /\ (r.pg p.n).ep = p.g
 hol : P.Perm ((L ++ T).map Pw.hm)
 pok : Rs_g.Ok r.mp P
section
variable {r : Rg} {L T : List Pw} {P : Rs_g}
theorem Rel.stL (h : Rel r L T P) {p : Pw} (hp : p ∈ L) : r.st p.n = 0 := Rg.live_mem.1 (by rw [<- h.liv]; exact List.mem_map.2 ⟨p, hp, rfl⟩)
theorem Rel.stT (h : Rel r L T P) (hk : r.Ok) {p : Pw} (hp : p ∈ T) : r.st p.n = 1 := (hk.ln _).1 (by rw [<- h.ret]; exact List.mem_map.2 ⟨p, hp, rfl⟩)
theorem getD_memP (l : List Pw) (k : Nat) (h : k < l.length) : l.getD k Pw.nil ∈ l := by simp [List.getD, h]
theorem mem_getDP {l : List Pw} {p : Pw} (h : p ∈ l) : ∃ i, i < l.length /\ l.getD i Pw.nil = p := by
 obtain ⟨i, hi, e⟩ := List.getElem_of_mem h
 exact ⟨i, hi, by simp [List.getD, hi, e]⟩
theorem Rel.findL (h : Rel r L T P) {n : Int} (hn : r.st n = 0) : ∃ i, i < L.length /\ (L.getD i Pw.nil).n = n := by
 have := Rg.live_mem.2 hn
 rw [<- h.liv] at this
 obtain ⟨p, hp, e⟩ := List.mem_map.1 this
 obtain ⟨i, hi, e2⟩ := mem_getDP hp
 exact ⟨i, hi, by rw [e2]; exact e⟩
theorem Rel.findT (h : Rel r L T P) (hk : r.Ok) {n : Int} (hn : r.st n = 1) : ∃ i, i < T.length /\ (T.getD i Pw.nil).n = n := by
 have := (hk.ln n).2 hn
 rw [<- h.ret] at this
 obtain ⟨p, hp, e⟩ := List.mem_map.1 this
 obtain ⟨i, hi, e2⟩ := mem_getDP hp
 exact ⟨i, hi, by rw [e2]; exact e⟩
theorem up_nodup {l : List Int} (h : l.Pairwise (· < ·)) : l.Nodup := h.imp (fun h => by omega)
theorem Rg.live_up (r : Rg) : r.live.Pairwise (· < ·) := numF_up
theorem Rel.ndL (h : Rel r L T P) : (L.map Pw.n).Nodup := by rw [h.liv]; exact up_nodup r.live_up
theorem Rel.ndT (h : Rel r L T P) (hk : r.Ok) : (T.map Pw.n).Nodup := by rw [h.ret]; exact hk.nd
theorem first_one {l : List Pw} (hn : (l.map Pw.n).Nodup) {i : Nat} (hi : i < l.length) : ∀ j, j < i -> (l.getD j Pw.nil).n ≠ (l.getD i Pw.nil).n := by
 intro j hj e
 have h1 : (l.map Pw.n)[j]'(by simp; omega) = (l.map Pw.n)[i]'(by simpa using hi) := by
  simp only [List.getElem_map]
  have a1 : l.getD j Pw.nil = l[j]'(by omega) := by simp [List.getD, show j < l.length by omega]
  have a2 : l.getD i Pw.nil = l[i] := by simp [List.getD, hi]
  rw [<- a1, <- a2]
  exact e
 have := (List.getElem_inj hn).1 h1
 omega
theorem Rel.there (h : Rel r L T P) (hk : r.Ok) : r.there = L.length + T.length := by
 have e1 : L.length = (r.ps.filter (fun p => decide (p.st = 0))).length := by
  have := congrArg List.length h.liv
  rw [List.length_map] at this
  rw [this]
  exact numF_len
 have e2 : T.length = (r.ps.filter (fun p => decide (p.st = 1))).length := by
  have h1 : (numF 1 0 r.ps).Perm r.ln := (List.perm_ext_iff_of_nodup (up_nodup numF_up) hk.nd).2 (fun n => (mem_st (by omega)).trans (hk.ln n).symm)
  have := congrArg List.length h.ret
  rw [List.length_map] at this
  rw [this, <- h1.length_eq]
  exact numF_len
 unfold Rg.there
 rw [there_sum, e1, e2]
theorem Rel.lens (h : Rel r L T P) (hk : r.Ok) : L.length + T.length <= 16 /\ P.length <= 16 := by
 have h1 := h.there hk
 have h2 := hk.th
 have h3 := h.hol.length_eq
 rw [List.length_map, List.length_append] at h3
 omega
theorem Rel.hasP (h : Rel r L T P) (hk : r.Ok) (n : Int) : P.has n = true ↔ r.st n <= 1 := by
 rw [Rs_g.has_iff]
 constructor
 ·rintro ⟨x, hx, e⟩
  obtain ⟨p, hp, e2⟩ := List.mem_map.1 (h.hol.mem_iff.1 hx)
  subst e2
  have e : p.n = n := e
  rcases List.mem_append.1 hp with g | g
  ·rw [<- e, h.stL g]; omega
  ·rw [<- e, h.stT hk g]; omega
 ·intro hn
  rcases (show r.st n = 0 ∨ r.st n = 1 by omega) with e | e
  ·obtain ⟨i, hi, e2⟩ := h.findL e
   exact ⟨(L.getD i Pw.nil).hm, h.hol.mem_iff.2 (List.mem_map.2 ⟨_, List.mem_append_left _ (getD_memP _ _ hi), rfl⟩), e2⟩
  ·obtain ⟨i, hi, e2⟩ := h.findT hk e
   exact ⟨(T.getD i Pw.nil).hm, h.hol.mem_iff.2 (List.mem_map.2 ⟨_, List.mem_append_right _ (getD_memP _ _ hi), rfl⟩), e2⟩
theorem Rg.st_new (r : Rg) : r.st ((r.ps.length : Int) + 1) = 2 := by
 have hx : ¬ r.st ((r.ps.length : Int) + 1) ≠ 2 := fun e => by have := (Rg.st_in e).2; omega
 exact Decidable.of_not_not hx
theorem Rel.drop_new (h : Rel r L T P) (hk : r.Ok) : Rs_g.drop P [(r.ps.length : Int) + 1] = (41, P) := by
 have e1 : P.has ((r.ps.length : Int) + 1) = false := Bool.eq_false_iff.2 fun g => by
  have := (h.hasP hk _).1 g
  rw [r.st_new] at this
  omega
 unfold Rs_g.drop
 rw [if_neg (by simp), if_pos (by simp [e1])]
theorem Rel.hold_new (h : Rel r L T P) (hk : r.Ok) {ms : List Int} (hm : okM_g r.mp ms = true) : Rs_g.hold r.mp P ((r.ps.length : Int) + 1) ms = (0, insH ⟨(r.ps.length : Int) + 1, ms⟩ P) := by
 have e1 : P.has ((r.ps.length : Int) + 1) = false := Bool.eq_false_iff.2 fun g => by
  have := (h.hasP hk _).1 g
  rw [r.st_new] at this
  omega
 unfold Rs_g.hold
 rw [if_neg (by rw [hm]; decide), if_neg (by rw [e1]; decide)]
theorem Rel.load (h : Rel r L T P) (hk : r.Ok) (md : Md) (hm : okM_g r.mp md.ms = true) : Rel ⟨r.mp, r.tb, r.ck, r.ps ++ [⟨md.ms, md.xs, 0, 0⟩], r.ln⟩ (L ++ [⟨(r.ps.length : Int) + 1, md, 0⟩]) T (insH ⟨(r.ps.length : Int) + 1, md.ms⟩ P) := by
 have hnew : ∀ p, p ∈ L ∨ p ∈ T -> p.n ≠ (r.ps.length : Int) + 1 := fun p hp e => by
  have h2 := r.st_new
  rw [<- e] at h2
  rcases hp with g | g
  ·rw [h.stL g] at h2; cases h2
  ·rw [h.stT hk g] at h2; cases h2
 refine ⟨?_, h.ret, fun p hp => ?_, fun p hp => ?_, ?_, ?_⟩
 ·show _ = numF 0 0 (r.ps ++ [⟨md.ms, md.xs, 0, 0⟩])
  have := h.liv
  rw [numF_app, List.map_append, this]
  simp [Rg.live]
 ·rw [Rg.pg_eq]
  show (pgP (r.ps ++ [⟨md.ms, md.xs, 0, 0⟩]) p.n).ms = _ /\ _ = _
  rcases List.mem_append.1 hp with g | g
  ·rw [pgP_app, if_neg (hnew p (.inl g))]
   exact h.mdL p g
  ·have e : p = ⟨(r.ps.length : Int) + 1, md, 0⟩ := by simpa using g
   subst e
   have e2 : pgP (r.ps ++ [⟨md.ms, md.xs, 0, 0⟩]) ((r.ps.length : Int) + 1) = ⟨md.ms, md.xs, 0, 0⟩ := by rw [pgP_app, if_pos rfl]
   show _ /\ (pgP (r.ps ++ [⟨md.ms, md.xs, 0, 0⟩]) ((r.ps.length : Int) + 1)).xs = _
   rw [e2]
   exact ⟨rfl, rfl⟩
 ·rw [Rg.pg_eq]
  show (pgP (r.ps ++ [⟨md.ms, md.xs, 0, 0⟩]) p.n).ms = _ /\ _
  rw [pgP_app, if_neg (hnew p (.inr hp))]
  exact h.mdT p hp
 ·refine (insH_perm _ _).trans ?_
  have h1 := h.hol.cons ⟨(r.ps.length : Int) + 1, md.ms⟩
  refine h1.trans ?_
  rw [List.append_assoc, List.map_append, List.map_append, List.map_append]
  have : [(⟨(r.ps.length : Int) + 1, md, 0⟩ : Pw)].map Pw.hm = [⟨(r.ps.length : Int) + 1, md.ms⟩] := rfl
  rw [this]
  exact (List.perm_middle (a := (⟨(r.ps.length : Int) + 1, md.ms⟩ : Hm)) (l₁ := L.map Pw.hm) (l₂ := T.map Pw.hm)).symm
 ·exact Rs_g.Ok.hold h.pok (h.hold_new hk hm)
theorem perm_erase : ∀ {l : List Pw} {i : Nat}, i < l.length -> l.Perm (l.getD i Pw.nil :: l.eraseIdx i)
 | [], i, h => by simp at h
 | a :: l, 0, _ => List.Perm.refl _
 | a :: l, i + 1, h => by
  have ih := perm_erase (l := l) (i := i) (by simpa using h)
  exact (ih.cons a).trans (List.Perm.swap _ _ _)
theorem mem_erase_iff {l : List Pw} (hn : (l.map Pw.n).Nodup) {i : Nat} (hi : i < l.length) {x : Int} : x ∈ (l.eraseIdx i).map Pw.n ↔ x ∈ l.map Pw.n /\ x ≠ (l.getD i Pw.nil).n := by
 have hp : l.Perm (l.getD i Pw.nil :: l.eraseIdx i) := perm_erase hi
 have hq := hp.map Pw.n
 rw [List.map_cons] at hq
 have hn2 := hq.nodup_iff.1 hn
 obtain ⟨a1, a2⟩ := List.nodup_cons.1 hn2
 rw [hq.mem_iff, List.mem_cons]
 constructor
 ·exact fun e => ⟨.inr e, fun g => a1 (by rw [<- g]; exact e)⟩
 ·rintro ⟨e | e, g⟩
  ·exact absurd e g
  ·exact e
theorem Rel.same (h : Rel r L T P) (tb : Tb) (ck : Ck) : Rel ⟨r.mp, tb, ck, r.ps, r.ln⟩ L T P := ⟨h.liv, h.ret, h.mdL, h.mdT, h.hol, h.pok⟩
theorem Rel.new (hh m k : Nat) : Rel (Rg.new hh m k) [] [] [] := ⟨rfl, rfl, fun p hp => (by cases hp), fun p hp => (by cases hp), List.Perm.refl _, Rs_g.Ok.nil m⟩
end
end Go.Proofs.YtibolefffjkblaaGreat
