
/-
  The landed owner of layer 22 as an object. No condition but where it lies.
-/
import Derived.Test.YtpbfgebecgikjaaO22LB
import Derived.Test.YtpbfgebecgikjaaO22LS
import Derived.Test.YtpbfgebecgikjaaO22LN
namespace Go.Proofs.Ytpbfgebecgikjaa
open Go.RowKit
set_option linter.unusedVariables false
def Lwn (w : World) (B b : Nat) (F : Ft) (o : On) : Prop := ∃ rv lv vs Fs, Lwo w B b rv lv vs Fs o ∧ F = footO b rv lv vs.length Fs
theorem Lwn.lies {w : World} {B b : Nat} {F : Ft} {o : On} (h : Lwn w B b F o) : Lies w F := by
  obtain ⟨rv, lv, vs, Fs, h, rfl⟩ := h
  exact h.lies
theorem Lwn.keeps {w w' : World} {B b : Nat} {F G : Ft} {o : On} (h : Lwn w B b F o) (hc : Chg w w' G) (ha : Apt G F) : Lwn w' B b F o := by
  obtain ⟨rv, lv, vs, Fs, h, rfl⟩ := h
  exact ⟨rv, lv, vs, Fs, h.chg hc ha, rfl⟩
theorem lonew_ok (sh n : Int) {v : Value} {es : List (Int × Int)} {o : On} (w : World) (hs : SeesG dfC 2 (0, 0) w v es) (HN : Hid (newO sh n es = some o)) : Calls Try.prog 8 #[.int .i64 sh, .int .i64 n, v] w fun e w' => ∃ b F, e = .returned (.tuple #[.pointer (some ⟨b, 0, none⟩), .int .i64 0]) ∧ Lwn w' w.heap.size b F o ∧ Since w F ∧ Below w.heap.size w w' := by
  refine (lonew_lwo sh n w hs HN).mono ?_
  rintro e w' ⟨b, vm, ps, F, rfl, h, hS, hb⟩
  exact ⟨b, _, rfl, ⟨vm, _, ps, F, h, rfl⟩, hS, hb⟩
theorem Lwn.send {w : World} {B b : Nat} {F : Ft} {o o' : On} (h : Lwn w B b F o) (hk : o.Ok) (hB : B ≤ w.heap.size) {u : Value} {qs : List Rt} (hz : Hid ((o.ln.length + qs.length) * 56 ≤ 140737488355328)) (hs : SeesG rtC 7 Rt.nil w u qs) (hwf : ∀ q ∈ qs, q.wf) (hap : qs ≠ [] → Apt F (ftV u)) {E : Int} (HQ : Hid (o.send qs = (E, o'))) : Calls Try.prog 10 #[.pointer (some ⟨b, 0, none⟩), u] w fun e w' => e = .returned (.int .i64 E) ∧ ∃ F', Lwn w' B b F' o' ∧ Nx w w' F F' := by
  obtain ⟨rv, lv, vs, Fs, h, rfl⟩ := h
  refine (lsend h hk.n1 hB hz hs hwf HQ).mono ?_
  rintro e w' ⟨rfl, lv', h', hn⟩
  exact ⟨rfl, _, ⟨rv, lv', vs, Fs, h', rfl⟩, hn⟩
theorem Lwn.step {w : World} {B b : Nat} {F : Ft} {o o' : On} (h : Lwn w B b F o) (hk : o.Ok) (hB : B ≤ w.heap.size) (hz : Hid (o.ln.length * 56 ≤ 140737488355328)) {p : Ry} {r : Bool} (HQ : Hid (o.step = (p, r, o'))) : Calls Try.prog 13 #[.pointer (some ⟨b, 0, none⟩)] w fun e w' => ∃ u, e = .returned (.tuple #[rpV p u, .bool r]) ∧ ∃ F', Lwn w' B b F' o' ∧ Nx w w' F F' ∧ RoPp w' w.heap.size u p.ps ∧ Apt F' (ftV u) := by
  obtain ⟨rv, lv, vs, Fs, h, rfl⟩ := h
  have hq := HQ.out
  unfold On.step at hq
  split at hq
  · rename_i hl
    injection hq with q1 q2
    injection q2 with q2 q3
    subst q1 q2 q3
    refine (lstep_none h hl).mono ?_
    rintro e w' ⟨rfl, h', hb⟩
    exact ⟨_, rfl, _, ⟨rv, lv, vs, Fs, h', rfl⟩, Nx.below hb, World.ownsRow_nil _ _ _ _, fun j e1 e2 => by cases e2⟩
  · rename_i q rr hl
    injection hq with q1 q2
    injection q2 with q2 q3
    subst q2
    refine (lstep_some h hk hB hl (show Hid (o.serve q rr = (p, o')) from Prod.ext q1 q3)).mono ?_
    rintro e w' ⟨u, rfl, lv', F', h', hn, hr, ha⟩
    exact ⟨u, rfl, _, ⟨rv, lv', vs, F', h', rfl⟩, hn, hr, ha⟩
theorem Lwn.waiting {w : World} {B b : Nat} {F : Ft} {o : On} (h : Lwn w B b F o) (hz : Hid (o.ln.length * 56 ≤ 140737488355328)) : Calls Try.prog 21 #[.pointer (some ⟨b, 0, none⟩)] w fun e w' => ∃ u, e = .returned u ∧ RoRt w' w.heap.size u o.ln ∧ Below w.heap.size w w' := by
  obtain ⟨rv, lv, vs, Fs, h, rfl⟩ := h
  exact lwaiting h hz
theorem Lwn.endd {w : World} {B b : Nat} {F : Ft} {o o' : On} (h : Lwn w B b F o) (hB : B ≤ w.heap.size) {E : Int} (HQ : Hid (o.end = (E, o'))) : Calls Try.prog 16 #[.pointer (some ⟨b, 0, none⟩)] w fun e w' => e = .returned (.int .i64 E) ∧ ∃ F', Lwn w' B b F' o' ∧ Nx w w' F F' := by
  obtain ⟨rv, lv, vs, Fs, h, rfl⟩ := h
  refine (lend h HQ).mono ?_
  rintro e w' ⟨rfl, h', hc⟩
  exact ⟨rfl, _, ⟨rv, lv, vs, Fs, h', rfl⟩, hc.mono (fun k e => .inl (.inl e)), fun k hk => .inl hk⟩
theorem Lwn.ended {w : World} {B b : Nat} {F : Ft} {o : On} (h : Lwn w B b F o) : Calls Try.prog 22 #[.pointer (some ⟨b, 0, none⟩)] w fun e w' => e = .returned (.bool o.over) ∧ w = w' := by
  obtain ⟨rv, lv, vs, Fs, h, rfl⟩ := h
  exact lended h
theorem Lwn.pairs {w : World} {B b : Nat} {F : Ft} {o : On} (h : Lwn w B b F o) (hk : o.Ok) (m : Int) {E : Int} {ps : List Pp} (HQ : Hid ((if o.hasM m = true then (0, (o.sr m).1) else (2, [])) = (E, ps))) : Calls Try.prog 18 #[.pointer (some ⟨b, 0, none⟩), .int .i64 m] w fun e w' => ∃ u, e = .returned (.tuple #[u, .int .i64 E]) ∧ RoPp w' w.heap.size u ps ∧ Below w.heap.size w w' := by
  obtain ⟨rv, lv, vs, Fs, h, rfl⟩ := h
  exact lpairs h hk m HQ
end Go.Proofs.Ytpbfgebecgikjaa
