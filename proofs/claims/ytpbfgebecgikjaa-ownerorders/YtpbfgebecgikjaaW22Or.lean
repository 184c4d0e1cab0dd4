
/-
  OwnerOrders: what is served in order, plain; the owner, a row of shards, the requests taken, the replies got, and the replies' pairs, apart. No condition.
-/
import Derived.Test.YtpbfgebecgikjaaW22Two
import Derived.Test.YtpbfgebecgikjaaW15Via
namespace Go.Proofs.Ytpbfgebecgikjaa
open Go.RowKit
set_option linter.unusedVariables false
set_option linter.unusedSimpArgs false
set_option maxRecDepth 100000
/-- The owner once these were served in order; its line stays as it is left by the last. -/
def On.after (o : On) : List Rt → On
  | [] => o
  | q :: l => ((o.serve q []).2).after l
/-- The replies to these, served in order. -/
def On.reps (o : On) : List Rt → List Ry
  | [] => []
  | q :: l => (o.serve q []).1 :: ((o.serve q []).2).reps l
theorem serve_line (o : On) (l : List Rt) (q : Rt) (r : List Rt) : (o.line l).serve q r = ((o.serve q []).1, ((o.serve q []).2).line r) := by
  unfold On.serve
  cases q.wk <;> rfl
theorem after_app (q : Rt) : ∀ (l : List Rt) (o : On), o.after (l ++ [q]) = ((o.after l).serve q []).2
  | [], o => rfl
  | x :: l, o => after_app q l _
theorem reps_app (q : Rt) : ∀ (l : List Rt) (o : On), o.reps (l ++ [q]) = o.reps l ++ [((o.after l).serve q []).1]
  | [], o => rfl
  | x :: l, o => congrArg (List.cons _) (reps_app q l _)
theorem reps_len : ∀ (l : List Rt) (o : On), (o.reps l).length = l.length
  | [], o => rfl
  | x :: l, o => by simp [On.reps, reps_len l]
theorem serve_same (o : On) (q : Rt) (r : List Rt) : (o.serve q r).2.st.length = o.st.length ∧ (o.serve q r).2.n = o.n ∧ (o.serve q r).2.sh = o.sh ∧ (o.serve q r).2.over = o.over ∧ (o.serve q r).2.ds = o.ds ∧ (o.serve q r).2.ln = r := by
  unfold On.serve
  cases q.wk
  · exact ⟨by simp, rfl, rfl, rfl, rfl, rfl⟩
  · exact ⟨rfl, rfl, rfl, rfl, rfl, rfl⟩
theorem after_same : ∀ (l : List Rt) (o : On), (o.after l).st.length = o.st.length ∧ (o.after l).n = o.n ∧ (o.after l).sh = o.sh ∧ (o.after l).over = o.over ∧ (o.after l).ds = o.ds
  | [], o => ⟨rfl, rfl, rfl, rfl, rfl⟩
  | q :: l, o => by
    obtain ⟨a1, a2, a3, a4, a5⟩ := after_same l (o.serve q []).2
    obtain ⟨b1, b2, b3, b4, b5, _⟩ := serve_same o q []
    exact ⟨a1.trans b1, a2.trans b2, a3.trans b3, a4.trans b4, a5.trans b5⟩
theorem after_takes (l : List Rt) (o : On) (q : Rt) : (o.after l).takes q = o.takes q := by
  obtain ⟨a1, a2, a3, _⟩ := after_same l o
  exact takes_same a1 a2 a3 q
theorem after_ok : ∀ (l : List Rt) {o : On}, o.Ok → (∀ q ∈ l, o.takes q = true) → (o.after l).Ok
  | [], o, h, _ => h
  | q :: l, o, h, hl => by
    have h1 : (o.line [q]).Ok := h.line' (fun x hx => by rw [List.mem_singleton.1 hx]; exact hl q (by simp))
    have h2 := h1.serve (q := q) (r := []) rfl
    rw [serve_line] at h2
    obtain ⟨b1, b2, b3, b4, b5, b6⟩ := serve_same o q []
    have h3 : (o.serve q []).2.Ok := by
      have e : ((o.serve q []).2).line [] = (o.serve q []).2 := by
        cases hq : (o.serve q []).2 with
        | mk s1 n1 d1 t1 l1 v1 => rw [hq] at b6; show On.mk s1 n1 d1 t1 [] v1 = _; rw [show l1 = [] from b6]
      rw [← e]
      exact h2
    exact after_ok l h3 (fun x hx => (takes_same b1 b2 b3 x).trans (hl x (by simp [hx])))
/-- How far it has come: these were taken, these replies were given. -/
structure Pg (o0 : On) (L : List Rt) (R : List Ry) (o : On) : Prop where
  le : R.length ≤ L.length
  rs : R = o0.reps (L.take R.length)
  on : o = (o0.after (L.take R.length)).line (L.drop R.length)
  tk : ∀ q ∈ L, o0.takes q = true
section
variable {o0 o : On} {L : List Rt} {R : List Ry}
theorem Pg.start (h : o0.line [] = o0) : Pg o0 [] [] o0 := ⟨Nat.le_refl _, rfl, h.symm, by simp⟩
theorem Pg.ln (h : Pg o0 L R o) : o.ln = L.drop R.length := by rw [h.on]; rfl
theorem Pg.send (h : Pg o0 L R o) (hv : o0.over = false) (q : Rt) : (o0.takes q = true → ∃ o', o.send [q] = (0, o') ∧ Pg o0 (L ++ [q]) R o') ∧ (o0.takes q = false → o.send [q] = (2, o)) := by
  have hv' : (o0.after (L.take R.length)).over = false := (after_same _ o0).2.2.2.1.trans hv
  have hs := send_one hv' (L.drop R.length) q
  rw [after_takes] at hs
  have hle := h.le
  refine ⟨fun ht => ?_, fun ht => ?_⟩
  · rw [if_pos ht] at hs
    refine ⟨(o0.after (L.take R.length)).line (L.drop R.length ++ [q]), by rw [h.on]; exact hs, by simp; omega, ?_, ?_, ?_⟩
    · rw [List.take_append_of_le_length hle]; exact h.rs
    · rw [List.take_append_of_le_length hle, List.drop_append_of_le_length hle]
    · intro x hx
      rcases List.mem_append.1 hx with g | g
      · exact h.tk x g
      · rw [List.mem_singleton.1 g]; exact ht
  · rw [if_neg (by rw [ht]; decide)] at hs
    rw [h.on]
    exact hs
theorem Pg.step (h : Pg o0 L R o) (hlt : R.length < L.length) : ∃ p o', o.step = (p, true, o') ∧ Pg o0 L (R ++ [p]) o' := by
  have hd := drop_cons hlt
  have ht := take_atR L R.length hlt
  have hl : o.ln = L.getD R.length Rt.nil :: L.drop (R.length + 1) := h.ln.trans hd
  refine ⟨_, _, by unfold On.step; rw [hl], by simp; omega, ?_, ?_, h.tk⟩
  · rw [List.length_append, List.length_singleton, ht, reps_app, ← h.rs, h.on, serve_line]
  · rw [List.length_append, List.length_singleton, ht, after_app, h.on, serve_line]
theorem Pg.stop (h : Pg o0 L R o) (hlt : ¬ R.length < L.length) : o.step = (Ry.nil, false, o) ∧ o.ln = [] := by
  have hl : o.ln = [] := h.ln.trans (List.drop_of_length_le (by omega))
  exact ⟨by unfold On.step; rw [hl], hl⟩
theorem Pg.at (h : Pg o0 L R o) {i : Nat} (hi : i < R.length) : R[i]? = some ((o0.after (L.take i)).serve (L.getD i Rt.nil) []).1 := by
  have hle := h.le
  have key : ∀ (l : List Rt) (o : On) (i : Nat), i < l.length → (o.reps l)[i]? = some ((o.after (l.take i)).serve (l.getD i Rt.nil) []).1 := by
    intro l
    induction l with
    | nil => intro o i hi; simp at hi
    | cons x l ih =>
      intro o i hi
      cases i with
      | zero => rfl
      | succ i => simpa [On.reps, On.after] using ih (o.serve x []).2 i (by simpa using hi)
  have hk := key (L.take R.length) o0 i (by simp; omega)
  rw [← h.rs] at hk
  rw [hk, List.take_take, Nat.min_eq_left (by omega)]
  have e : (L.take R.length).getD i Rt.nil = L.getD i Rt.nil := by simp [List.getD, List.getElem?_take, hi]
  rw [e]
end
abbrev rpG (x : Ry × Value) : List Value := rpC x.1 x.2
theorem rpG_len (x : Ry × Value) : (rpG x).length = 14 := rfl
/-- A row of landed shards. -/
def Fm (w0 w : World) (mv : Value) (vs : List Value) (ds : List Df) (st : List Sr) (F : Ft) : Prop :=
  ∃ fs : Nat → Ft, w.ownsRow w0.heap.size 69 1 mv vs.length (flatG ifC vs) ∧ Fam (fun w i G => Sh w w0.heap.size (vs.getD i .nilIface) (ds.getD i (false, 0)).1 (ds.getD i (false, 0)).2 (st.getD i Sr.nil) G) w vs.length fs ∧ (∀ i, i < vs.length → Apt (ftV mv) (fs i)) ∧ (∀ i, i < vs.length → Since w0 (fs i)) ∧ F = fun k => ftV mv k ∨ unF vs.length fs k
section
variable {w0 w w' : World} {mv : Value} {vs : List Value} {ds : List Df} {st : List Sr} {F G : Ft}
theorem Fm.lies (h : Fm w0 w mv vs ds st F) : Lies w F := by
  obtain ⟨fs, h1, h2, _, _, rfl⟩ := h
  rintro k (e | ⟨i, hi, e⟩)
  · exact (h1.lt k e).2
  · exact h2.li i hi k e
theorem Fm.since (h : Fm w0 w mv vs ds st F) : Since w0 F := by
  obtain ⟨fs, h1, _, _, h4, rfl⟩ := h
  rintro k (e | ⟨i, hi, e⟩)
  · exact (h1.lt k e).1
  · exact h4 i hi k e
theorem Fm.keeps (h : Fm w0 w mv vs ds st F) (hc : Chg w w' G) (ha : Apt G F) : Fm w0 w' mv vs ds st F := by
  obtain ⟨fs, h1, h2, h3, h4, rfl⟩ := h
  exact ⟨fs, own_chg h1 hc (fun k hk e => ha k e (.inl hk)), h2.keeps hc (fun j hj g => g.keeps hc (fun k e1 e2 => ha k e1 (.inr ⟨j, hj, e2⟩))), h3, h4, rfl⟩
theorem Fm.nil : Fm w0 w (.slice none 0 0) [] ds st (fun k => ftV (.slice none 0 0) k ∨ unF 0 (fun _ _ => False) k) := ⟨_, World.ownsRow_nil _ _ _ _, Fam.nil, fun i h => by simp at h, fun i h => by simp at h, rfl⟩
/-- One shard more: made, then laid at the row's end. -/
theorem Fm.more (h : Fm w0 w mv vs ds st F) (hst : ∀ i, st.getD i Sr.nil = Sr.nil) {w1 w2 : World} {mv2 p : Value} {G : Ft} {o : Obj} (hw : w0.heap.size ≤ w.heap.size) (hb : Below w.heap.size w w1) (hs : Sh w1 w.heap.size p (ds.getD vs.length (false, 0)).1 (ds.getD vs.length (false, 0)).2 Sr.nil G) (hG : Since w G) (hown : w2.ownsRow w0.heap.size 69 1 mv2 (vs.length + 1) (flatG ifC vs ++ ifC p)) (hgr : (w1.alloc o).grownBy w2 mv.ownBlock) (hnb : mv2.ownBlock = mv.ownBlock ∨ mv2.ownBlock = some (w1.alloc o).heap.size) :
    ∃ F', Fm w0 w2 mv2 (vs ++ [p]) ds st F' ∧ Nx w w2 F F' := by
  obtain ⟨fs, h1, h2, h3, h4, rfl⟩ := h
  have hc : Chg w w2 (ftV mv) := (Chg.of_below hb).trans (chg_append hgr) (fun k _ e => e)
  have hc2 : Chg w1 w2 (ftV mv) := chg_append hgr
  have hz1 : w1.heap.size ≤ (w1.alloc o).heap.size := (below_allocG w1 o).size
  have hG1 := hs.lies
  have hmG : Apt (ftV mv) G := fun k e1 e2 => by have := (h1.lt k e1).2; have := hG k e2; omega
  have hm2 : ∀ k, ftV mv2 k → ftV mv k ∨ w1.heap.size ≤ k := fun k hk => by
    unfold ftV at hk
    rcases hnb with e | e
    · left; rw [e] at hk; exact hk
    · right; rw [e] at hk; have := Option.some.inj hk; omega
  have hl : (vs ++ [p]).length = vs.length + 1 := by simp
  have hzb := hb.size
  refine ⟨_, ⟨upd fs vs.length G, ?_, ?_, ?_, ?_, rfl⟩, hc.mono (fun k e => .inl e), ?_⟩
  · rw [hl, flatG_more]; exact hown
  · rw [hl]
    refine Fam.more (P := fun w i G => Sh w w0.heap.size (vs.getD i .nilIface) (ds.getD i (false, 0)).1 (ds.getD i (false, 0)).2 (st.getD i Sr.nil) G) h2 (Nat.le_trans hzb hc2.size) hG ((hs.keeps hc2 hmG).lies) ?_ (fun j hj hd => ?_)
    · show Sh w2 w0.heap.size ((vs ++ [p]).getD vs.length .nilIface) _ _ (st.getD vs.length Sr.nil) G
      rw [hst, show (vs ++ [p]).getD vs.length .nilIface = p by simp]
      exact (hs.low hw).keeps hc2 hmG
    · show Sh w2 w0.heap.size ((vs ++ [p]).getD j .nilIface) _ _ (st.getD j Sr.nil) (fs j)
      rw [show (vs ++ [p]).getD j .nilIface = vs.getD j .nilIface by simp [List.getElem?_append_left hj]]
      exact hd.keeps hc (h3 j hj)
  · intro i hi
    by_cases e : i = vs.length
    · subst e
      rw [upd_same]
      intro k e1 e2
      rcases hm2 k e1 with g | g
      · exact hmG k g e2
      · have := hG1 k e2; omega
    · rw [upd_other fs G e]
      have hi' : i < vs.length := by omega
      intro k e1 e2
      rcases hm2 k e1 with g | g
      · exact h3 i hi' k g e2
      · have := h2.li i hi' k e2; omega
  · intro i hi
    by_cases e : i = vs.length
    · subst e
      rw [upd_same]
      exact fun k hk => Nat.le_trans hw (hG k hk)
    · rw [upd_other fs G e]; exact h4 i (by omega)
  · rintro k (e | ⟨i, hi, e⟩)
    · rcases hm2 k e with g | g
      · exact .inl (.inl g)
      · exact .inr (by omega)
    · by_cases e' : i = vs.length
      · subst e'
        rw [upd_same] at e
        exact .inr (hG k e)
      · rw [upd_other fs G e'] at e
        exact .inl (.inr ⟨i, by omega, e⟩)
/-- One shard, to be called. -/
theorem Fm.at (h : Fm w0 w mv vs ds st F) {i : Nat} (hi : i < vs.length) : ∃ G, Sh w w0.heap.size (vs.getD i .nilIface) (ds.getD i (false, 0)).1 (ds.getD i (false, 0)).2 (st.getD i Sr.nil) G ∧ ∀ {w' : World} {s' : Sr} {G' : Ft}, Sh w' w0.heap.size (vs.getD i .nilIface) (ds.getD i (false, 0)).1 (ds.getD i (false, 0)).2 s' G' → Nx w w' G G' → w0.heap.size ≤ w.heap.size → i < st.length → ∃ F', Fm w0 w' mv vs ds (st.set i s') F' ∧ Nx w w' F F' := by
  obtain ⟨fs, h1, h2, h3, h4, rfl⟩ := h
  refine ⟨fs i, h2.ob i hi, fun {w' s' G'} hs hn hw hl => ?_⟩
  have hf := Nx.fam (n := vs.length) hi hn
  refine ⟨_, ⟨upd fs i G', own_chg h1 hn.chg (fun k hk e => h3 i hi k hk e), h2.step hi hn hs.lies ?_ (fun j hj hne g ha => ?_), fun j hj => ?_, fun j hj => ?_, rfl⟩, hn.chg.mono (fun k e => .inr ⟨i, hi, e⟩), ?_⟩
  · show Sh w' w0.heap.size (vs.getD i .nilIface) _ _ ((st.set i s').getD i Sr.nil) G'
    rw [getD_set_same hl]
    exact hs
  · show Sh w' w0.heap.size (vs.getD j .nilIface) _ _ ((st.set i s').getD j Sr.nil) (fs j)
    rw [getD_set_other (fun e => hne e.symm)]
    exact g.keeps hn.chg ha
  · by_cases e : j = i
    · subst e
      rw [upd_same]
      exact ((h3 j hj).symm.next (fun k hk => (h1.lt k hk).2) hn).symm
    · rw [upd_other fs G' e]; exact h3 j hj
  · by_cases e : j = i
    · subst e
      rw [upd_same]
      exact (h4 j hj).next hw hn
    · rw [upd_other fs G' e]; exact h4 j hj
  · rintro k (e | e)
    · exact .inl (.inl e)
    · rcases hf.new k e with g | g
      · exact .inl (.inr g)
      · exact .inr g
end
/-- The blocks of the replies' pairs. -/
def Kf (us : List (Ry × Value)) : Ft := fun k => ∃ x ∈ us, ftV x.2 k
/-- The five. -/
def Pz (w0 : World) (a : Nat) (o : On) (mv : Value) (vs : List Value) (ds : List Df) (st : List Sr) (tv : Value) (L : List Rt) (gv : Value) (ws us : List (Ry × Value)) (w : World) (i : Nat) (F : Ft) : Prop := match i with
  | 0 => Lz w0 w a F o
  | 1 => Fm w0 w mv vs ds st F
  | 2 => RoRt w w0.heap.size tv L ∧ F = ftV tv
  | 3 => w.ownsRow w0.heap.size 50 14 gv ws.length (flatG rpG ws) ∧ F = ftV gv
  | _ => (∀ x ∈ us, RoPp w w0.heap.size x.2 x.1.ps) ∧ F = Kf us
section
variable {w0 w w' : World} {a : Nat} {o o' : On} {mv : Value} {vs : List Value} {ds : List Df} {st : List Sr} {tv : Value} {L : List Rt} {gv : Value} {ws us : List (Ry × Value)} {F G : Ft} {Fs : Nat → Ft}
theorem Pz.keeps {i : Nat} (h : Pz w0 a o mv vs ds st tv L gv ws us w i F) (hc : Chg w w' G) (ha : Apt G F) (hs : Since w0 G) : Pz w0 a o mv vs ds st tv L gv ws us w' i F := by
  unfold Pz at h ⊢
  split at h
  · exact h.keeps hc ha hs
  · exact h.keeps hc ha
  · obtain ⟨h1, rfl⟩ := h; exact ⟨own_chg h1 hc (fun k hk e => ha k e hk), rfl⟩
  · obtain ⟨h1, rfl⟩ := h; exact ⟨own_chg h1 hc (fun k hk e => ha k e hk), rfl⟩
  · obtain ⟨h1, rfl⟩ := h; exact ⟨fun x hx => own_chg (h1 x hx) hc (fun k hk e => ha k e ⟨x, hx, hk⟩), rfl⟩
theorem Pz.since {i : Nat} (h : Pz w0 a o mv vs ds st tv L gv ws us w i F) : Since w0 F := by
  unfold Pz at h
  split at h
  · exact h.since
  · exact h.since
  · obtain ⟨h1, rfl⟩ := h; exact own_since h1 (Nat.le_refl _)
  · obtain ⟨h1, rfl⟩ := h; exact own_since h1 (Nat.le_refl _)
  · obtain ⟨h1, rfl⟩ := h; rintro k ⟨x, hx, hk⟩; exact own_since (h1 x hx) (Nat.le_refl _) k hk
/-- The owner, the shards, what was taken, what was got, the pairs: apart. -/
def Oz (w0 w : World) (a : Nat) (o : On) (mv : Value) (vs : List Value) (ds : List Df) (st : List Sr) (tv : Value) (L : List Rt) (gv : Value) (ws us : List (Ry × Value)) (Fs : Nat → Ft) : Prop := Fam (Pz w0 a o mv vs ds st tv L gv ws us) w 5 Fs
theorem Oz.own (h : Oz w0 w a o mv vs ds st tv L gv ws us Fs) : Lz w0 w a (Fs 0) o := h.ob 0 (by omega)
theorem Oz.be (h : Oz w0 w a o mv vs ds st tv L gv ws us Fs) : Below w0.heap.size w0 w := h.own.be
theorem Oz.fm (h : Oz w0 w a o mv vs ds st tv L gv ws us Fs) : Fm w0 w mv vs ds st (Fs 1) := h.ob 1 (by omega)
theorem Oz.tk (h : Oz w0 w a o mv vs ds st tv L gv ws us Fs) : RoRt w w0.heap.size tv L := (h.ob 2 (by omega)).1
theorem Oz.gt (h : Oz w0 w a o mv vs ds st tv L gv ws us Fs) : w.ownsRow w0.heap.size 50 14 gv ws.length (flatG rpG ws) := (h.ob 3 (by omega)).1
theorem Oz.ps (h : Oz w0 w a o mv vs ds st tv L gv ws us Fs) : ∀ x ∈ us, RoPp w w0.heap.size x.2 x.1.ps := (h.ob 4 (by omega)).1
theorem Oz.below (h : Oz w0 w a o mv vs ds st tv L gv ws us Fs) (hb : Below w.heap.size w w') : Oz w0 w' a o mv vs ds st tv L gv ws us Fs :=
  Fam.keeps h (Chg.of_below (S := fun _ => False) hb) (fun j hj g => g.keeps (Chg.of_below (S := fun _ => False) hb) (fun _ e => e.elim) (fun _ e => e.elim))
/-- The owner went a step. -/
theorem Oz.goOwn (h : Oz w0 w a o mv vs ds st tv L gv ws us Fs) {F' : Ft} (hl : Lz w0 w' a F' o') (hn : Nx w w' (Fs 0) F') : Oz w0 w' a o' mv vs ds st tv L gv ws us (upd Fs 0 F') :=
  Fam.step h (by omega) hn hl.lies hl (fun j hj hne g ha => by
    have := g.keeps hn.chg ha (Pz.since (h.ob 0 (by omega)))
    match j, hne with
    | 1, _ => exact this
    | 2, _ => exact this
    | 3, _ => exact this
    | 4, _ => exact this
    | j + 5, _ => omega)
/-- The owner went a step, and handed out a reply. -/
theorem Oz.goRep (h : Oz w0 w a o mv vs ds st tv L gv ws us Fs) {F' : Ft} (hl : Lz w0 w' a F' o') (hn : Nx w w' (Fs 0) F') {p : Ry} {u : Value} (hu : RoPp w' w.heap.size u p.ps) (ha : Apt F' (ftV u)) : ∃ Gs, Oz w0 w' a o' mv vs ds st tv L gv ws (us ++ [(p, u)]) Gs := by
  have h1 := h.goOwn hl hn
  have hw : w0.heap.size ≤ w.heap.size := h.be.size
  have hnew : ∀ k, Kf (us ++ [(p, u)]) k → Kf us k ∨ ftV u k := by
    rintro k ⟨x, hx, hk⟩
    rcases List.mem_append.1 hx with g | g
    · exact .inl ⟨x, g, hk⟩
    · rw [List.mem_singleton.1 g] at hk; exact .inr hk
  have e4 : upd Fs 0 F' 4 = Kf us := (h1.ob 4 (by omega)).2
  have hold : ∀ j, j < 5 → j ≠ 4 → Apt (ftV u) (upd Fs 0 F' j) := fun j hj hne => by
    by_cases e : j = 0
    · subst e; rw [upd_same]; exact ha.symm
    · rw [upd_other Fs F' e]
      intro k e1 e2
      have := (hu.lt k e1).1
      have := h.li j hj k e2
      omega
  have hK : ∀ j, j < 5 → j ≠ 4 → Apt (Kf (us ++ [(p, u)])) (upd Fs 0 F' j) := fun j hj hne k e1 e2 => by
    rcases hnew k e1 with g | g
    · exact h1.ap 4 j (by omega) hj (fun e => hne e.symm) k (by rw [e4]; exact g) e2
    · exact hold j hj hne k g e2
  refine ⟨upd (upd Fs 0 F') 4 (Kf (us ++ [(p, u)])), fun j hj => ?_, fun j hj => ?_, fun j k hj hk hne => ?_⟩
  · by_cases e : j = 4
    · subst e
      rw [upd_same]
      refine ⟨fun x hx => ?_, rfl⟩
      rcases List.mem_append.1 hx with g | g
      · exact h1.ps x g
      · rw [List.mem_singleton.1 g]; exact own_lowG hu hw
    · rw [upd_other _ _ e]
      have := h1.ob j hj
      match j, e with
      | 0, _ => exact this
      | 1, _ => exact this
      | 2, _ => exact this
      | 3, _ => exact this
      | j + 5, _ => omega
  · by_cases e : j = 4
    · subst e
      rw [upd_same]
      intro k hk
      rcases hnew k hk with g | g
      · exact h1.li 4 (by omega) k (by rw [e4]; exact g)
      · exact (hu.lt k g).2
    · rw [upd_other _ _ e]; exact h1.li j hj
  · by_cases e : j = 4
    · subst e
      rw [upd_same, upd_other _ _ (fun e => hne e.symm)]
      exact hK k hk (fun e => hne e.symm)
    · rw [upd_other _ _ e]
      by_cases e2 : k = 4
      · subst e2
        rw [upd_same]
        exact (hK j hj e).symm
      · rw [upd_other _ _ e2]; exact h1.ap j k hj hk hne
theorem nx_append {ob : Obj} {v v2 : Value} (hgr : (w.alloc ob).grownBy w' v.ownBlock) (hnb : v2.ownBlock = v.ownBlock ∨ v2.ownBlock = some (w.alloc ob).heap.size) : Nx w w' (ftV v) (ftV v2) :=
  ⟨chg_append hgr, fun k hk => by
    have hz1 : w.heap.size ≤ (w.alloc ob).heap.size := (below_allocG w ob).size
    unfold ftV at hk
    rcases hnb with e | e
    · rw [e] at hk; exact .inl hk
    · rw [e] at hk; have := Option.some.inj hk; exact .inr (by omega)⟩
/-- A request is taken. -/
theorem Oz.take (h : Oz w0 w a o mv vs ds st tv L gv ws us Fs) {tv2 : Value} {q : Rt} (hown : w'.ownsRow w0.heap.size 45 7 tv2 (L.length + 1) (flatG rtC L ++ rtC q)) {ob : Obj} (hgr : (w.alloc ob).grownBy w' tv.ownBlock) (hnb : tv2.ownBlock = tv.ownBlock ∨ tv2.ownBlock = some (w.alloc ob).heap.size) : ∃ Gs, Oz w0 w' a o mv vs ds st tv2 (L ++ [q]) gv ws us Gs := by
  have hr : RoRt w' w0.heap.size tv2 (L ++ [q]) := by unfold RoRt; rw [List.length_append, flatG_more]; exact hown
  have e2 : Fs 2 = ftV tv := (h.ob 2 (by omega)).2
  have hn := nx_append hgr hnb
  rw [← e2] at hn
  refine ⟨_, Fam.step h (i := 2) (by omega) hn (fun k hk => (hr.lt k hk).2) ⟨hr, rfl⟩ (fun j hj hne g ha => ?_)⟩
  have := g.keeps hn.chg ha (Pz.since (h.ob 2 (by omega)))
  match j, hne with
  | 0, _ => exact this
  | 1, _ => exact this
  | 3, _ => exact this
  | 4, _ => exact this
  | j + 5, _ => omega
/-- A reply is laid down. -/
theorem Oz.lay (h : Oz w0 w a o mv vs ds st tv L gv ws us Fs) {gv2 : Value} {x : Ry × Value} (hown : w'.ownsRow w0.heap.size 50 14 gv2 (ws.length + 1) (flatG rpG ws ++ rpG x)) {ob : Obj} (hgr : (w.alloc ob).grownBy w' gv.ownBlock) (hnb : gv2.ownBlock = gv.ownBlock ∨ gv2.ownBlock = some (w.alloc ob).heap.size) : ∃ Gs, Oz w0 w' a o mv vs ds st tv L gv2 (ws ++ [x]) us Gs := by
  have hr : w'.ownsRow w0.heap.size 50 14 gv2 (ws ++ [x]).length (flatG rpG (ws ++ [x])) := by rw [List.length_append, flatG_more]; exact hown
  have e2 : Fs 3 = ftV gv := (h.ob 3 (by omega)).2
  have hn := nx_append hgr hnb
  rw [← e2] at hn
  refine ⟨_, Fam.step h (i := 3) (by omega) hn (fun k hk => (hr.lt k hk).2) ⟨hr, rfl⟩ (fun j hj hne g ha => ?_)⟩
  have := g.keeps hn.chg ha (Pz.since (h.ob 3 (by omega)))
  match j, hne with
  | 0, _ => exact this
  | 1, _ => exact this
  | 2, _ => exact this
  | 4, _ => exact this
  | j + 5, _ => omega
/-- The shards went a step. -/
theorem Oz.goFm (h : Oz w0 w a o mv vs ds st tv L gv ws us Fs) {mv2 : Value} {vs2 : List Value} {st2 : List Sr} {F' : Ft} (hl : Fm w0 w' mv2 vs2 ds st2 F') (hn : Nx w w' (Fs 1) F') : Oz w0 w' a o mv2 vs2 ds st2 tv L gv ws us (upd Fs 1 F') :=
  Fam.step h (by omega) hn hl.lies hl (fun j hj hne g ha => by
    have := g.keeps hn.chg ha (Pz.since (h.ob 1 (by omega)))
    match j, hne with
    | 0, _ => exact this
    | 2, _ => exact this
    | 3, _ => exact this
    | 4, _ => exact this
    | j + 5, _ => omega)
def startF (F0 : Ft) : Nat → Ft
  | 0 => F0
  | 1 => fun k => ftV (.slice none 0 0) k ∨ unF 0 (fun _ _ => False) k
  | 2 => ftV (.slice none 0 0)
  | 3 => ftV (.slice none 0 0)
  | _ => Kf []
theorem startF_no {F0 : Ft} {j : Nat} (hj : j ≠ 0) (k : Nat) : ¬ startF F0 j k := by
  have hno : ¬ ftV (.slice none 0 0) k := fun e => by cases e
  match j, hj with
  | 1, _ => rintro (e | ⟨i, hi, _⟩); exact hno e; omega
  | 2, _ => exact hno
  | 3, _ => exact hno
  | j + 4, _ => rintro ⟨x, hx, _⟩; simp at hx
/-- At the start. -/
theorem Oz.start {F0 : Ft} (h : Lz w0 w a F0 o) : Oz w0 w a o (.slice none 0 0) [] ds st (.slice none 0 0) [] (.slice none 0 0) [] [] (startF F0) := by
  refine ⟨fun j hj => ?_, fun j hj k hk => ?_, fun j i hj hi hne k e1 e2 => ?_⟩
  · match j with
    | 0 => exact h
    | 1 => exact Fm.nil
    | 2 => exact ⟨World.ownsRow_nil _ _ _ _, rfl⟩
    | 3 => exact ⟨World.ownsRow_nil _ _ _ _, rfl⟩
    | j + 4 => exact ⟨by simp, rfl⟩
  · by_cases e : j = 0
    · subst e; exact h.lies k hk
    · exact (startF_no e k hk).elim
  · by_cases e : j = 0
    · exact startF_no (fun e' => hne (e.trans e'.symm)) k e2
    · exact startF_no e k e1
end
end Go.Proofs.Ytpbfgebecgikjaa
