/-
  W24Aw
  W24Ld
-/
import Derived.Test.YtibolefffjkblaaGreatMQ0
import Derived.Test.YtibolefffjkblaaGreatMQ49
import Derived.Test.YtibolefffjkblaaGreatMQ48
import Derived.Test.YtibolefffjkblaaGreatMQ43
import Derived.Lib.SlBytesConst
namespace Go.Proofs.YtibolefffjkblaaGreat
open Go.RowKit
set_option linter.unusedVariables false
set_option linter.unusedSimpArgs false
set_option maxRecDepth 100000
def bs5 : List Int := [84, 80, 1, 1, 2, 2, 0, 0, 0, 8, 10, 22, 0, 0, 0, 0]
theorem five_dec : (decL bs5).2.2 = 0 /\ (decL bs5).1.1 = [2] := by decide +kernel
theorem five_jud : (judgeR (decL bs5).1.1 (decL bs5).1.2).2 = 0 := by decide +kernel
def rg5 : Rg := ⟨3, Tb.new 2, Ck.new 1, [⟨[2], (decL bs5).1.2, 0, 0⟩], []⟩
theorem five_load : (Rg.new 2 3 1).loadB bs5 = (1, 0, rg5) := by
 have e : errB bs5 = 0 := by unfold errB; rw [if_neg (by rw [five_dec.1]; decide)]; exact five_jud
 unfold Rg.loadB
 rw [e, five_dec.2]
 rfl
theorem five_put : ∃ t', (rg5.tb.put false 0 1) = (1, 0, t') /\ rg5.put false 0 1 = (1, 0, ⟨3, t', Ck.new 1, rg5.ps, []⟩) := ⟨_, rfl, rfl⟩
theorem sees_marked (w : World) (t : TypeId) (xs : List Int) (fr : Nat × Nat) (h : ∀ x ∈ xs, 0 <= x /\ x <= 255) (hl : xs.length <= 1000) : Sees .u8 (w.alloc (.cells (xs.map (Value.int .u8)).toArray t fr)) (.slice (some ⟨w.heap.size, 0, none⟩) xs.length xs.length) xs := by
 refine ⟨_, _, rfl, Nat.le_refl _, by unfold maxLen; omega, (fun e => by cases e), wf_bytes h, fun _ => ⟨w.heap.size, 0, rfl, by simp, fun i hi => ?_⟩⟩
 have e : (w.alloc (.cells (xs.map (Value.int .u8)).toArray t fr)).heap[w.heap.size]? = some (.cells (xs.map (Value.int .u8)).toArray t fr) := by
  show (w.heap.push _)[w.heap.size]? = _
  simp
 have e2 : (xs.map (Value.int .u8)).toArray[i]? = some (.int .u8 (xs.getD i 0)) := by
  simp [List.getD, hi]
 rw [Nat.zero_add]
 unfold World.cell?
 simp only [e, e2]
 rfl
theorem lfive (w : World) : Calls Tryz.prog 29 #[] w fun e w' => ∃ u, e = .returned u /\ Sees .u8 w' u bs5 /\ Below w.heap.size w w' := by
 obtain ⟨Z, hcv, HS, HB⟩ : ∃ Z, (convert 32 32 (.slice (some ⟨w.heap.size, 0, none⟩) 16 16)).run Tryz.prog (w.alloc (.cells #[.int .u8 84, .int .u8 80, .int .u8 1, .int .u8 1, .int .u8 2, .int .u8 2, .int .u8 0, .int .u8 0, .int .u8 0, .int .u8 8, .int .u8 10, .int .u8 22, .int .u8 0, .int .u8 0, .int .u8 0, .int .u8 0] 5)) = .ok (.slice (some ⟨w.heap.size, 0, none⟩) 16 16) Z /\ Hid (Sees .u8 Z (.slice (some ⟨w.heap.size, 0, none⟩) 16 16) bs5) /\ Hid (Below w.heap.size w Z) := ⟨_, Go.Lib.run_convert_bytes_const (P := Tryz.prog) w 32 5 (bs5.map (Value.int .u8)).toArray 16 16 Tryz.underlying32 Tryz.underlying5, sees_marked w 5 bs5 (16, 17) (by decide) (by decide), below_allocG w _⟩
 go_enter Tryz.func29, Tryz.ntmps29
 go_wp2
 go_ret
 exact ⟨_, rfl, HS.out, HB.out⟩
set_option maxHeartbeats 3200000 in
theorem awake24_any (w : World) : Calls Tryz.prog 8 #[] w fun e w' => e = .returned (.bool true) /\ Below w.heap.size w w' := by
 obtain ⟨t', ht, hp⟩ := five_put
 have HLD := keepG five_load
 have HPT := keepG hp
 have HN : Hid ((if inM (⟨3, t', Ck.new 1, rg5.ps, []⟩ : Rg).mp 2 = true then ((⟨3, t', Ck.new 1, rg5.ps, []⟩ : Rg).names 2, (0 : Int)) else (0, 2)) = (1, 0)) := by
  show _ = _
  rfl
 have hok5 : rg5.Ok := by
  have := (Rg.Ok.new (h := 2) (m := 3) (k := 1) (by omega) (by omega) (by omega) (by omega) (by omega)).loadB bs5
  rw [five_load] at this
  exact this
 have hokP : (⟨3, t', Ck.new 1, rg5.ps, []⟩ : Rg).Ok := by
  have := hok5.put false 0 1
  rw [hp] at this
  exact this
 have HBS : Hid (∀ x ∈ bs5, 0 <= x /\ x <= 255) := by
  show ∀ x ∈ bs5, 0 <= x /\ x <= 255
  decide
 have HOK5 := keepG hok5
 have HOKP := keepG hokP
 clear ht hp hok5 hokP
 go_enter Tryz.func8, Tryz.ntmps8
 go_wp2_with (first
  | (go_at_call 9; go_must (refine (lz24_new (w0 := w) 2 3 1 (by omega) (by omega) (by omega) (by omega) (by omega) (Below.refl _ _)).mono ?_); rintro e w1 ⟨b, bt, br, bc, G, rfl, hL⟩; go_must (have HL := keepG hL; clear hL))
  | (go_at_call 29; go_must (refine (lfive _).mono ?_); rintro e w2 ⟨u, rfl, hs, hb⟩; go_must (have HL2 := keepG (HL.out.below hb); have HS := keepG hs; obtain ⟨ua, uc, eu⟩ : ∃ ua uc, u = .slice ua bs5.length uc := (by obtain ⟨a, c, e, _⟩ := hs; exact ⟨a, c, e⟩); subst eu; clear hb hs))
  | (go_at_call 25; go_must (refine (HL2.out.reg.load HL2.out.ok (by simp [Rg.new]) HS.out HBS.out HLD).mono ?_); rintro e w3 ⟨rfl, G3, hl, hn⟩; go_must (have HL3 := keepG (HL2.out.next hl hn HOK5.out); clear hl hn))
  | (go_at_call 19; go_must (refine (HL3.out.reg.attach HL3.out.ok (by decide) 0 1 HPT).mono ?_); rintro e w4 ⟨rfl, G4, hl, hn⟩; go_must (have HL4 := keepG (HL3.out.next hl hn HOKP.out); have c1 := HL4.out.low.2.1; clear hl hn))
  | (go_at_call 18; go_must (refine (HL4.out.reg.count HL4.out.ok 2 HN).mono ?_); rintro e w5 ⟨rfl, hb⟩; go_must (have HL5 := keepG (HL4.out.below hb); clear hb)))
 go_ret
 exact ⟨rfl, HL5.out.be⟩
structure Lm24 (w0 wr : World) (b bt br bc : Nat) (G : Ft) (r : Rg) (md : Md) : Prop where
 lz : Lz24 w0 wr b bt br bc G r
 mi : MdIn wr md
 ap : Apt (ftM [md]) G
section
variable {w0 wr wr' : World} {b bt br bc : Nat} {G G' H : Ft} {r r' : Rg} {md : Md}
theorem ftM_one {k : Nat} (h : md.um.ownBlock = some k ∨ md.uc.ownBlock = some k) : ftM [md] k := ⟨md, by simp, h⟩
theorem Lm24.below (h : Lm24 w0 wr b bt br bc G r md) (hb : Below wr.heap.size wr wr') : Lm24 w0 wr' b bt br bc G r md := ⟨h.lz.below hb, h.mi.chg (G := fun _ => False) (Chg.of_below hb) (fun _ e => e.elim), h.ap⟩
theorem Lm24.next (h : Lm24 w0 wr b bt br bc G r md) (hl : Lr wr' b bt br bc G' r') (hn : Nx wr wr' G G') (hk : r'.Ok) : Lm24 w0 wr' b bt br bc G' r' md :=
 ⟨h.lz.next hl hn hk, h.mi.chg hn.chg (fun k e g => h.ap k (ftM_one g) e), (Apt.next h.ap.symm (fun k e => by obtain ⟨q, hq, e⟩ := e; rw [List.mem_singleton.1 hq] at e; rcases e with e | e; exact (h.mi.om.lt k e).2; exact (h.mi.oc.lt k e).2) hn).symm⟩
theorem Lm24.keeps (h : Lm24 w0 wr b bt br bc G r md) (hc : Chg wr wr' H) (h1 : Apt H G) (h2 : Apt H (ftM [md])) (hs : Since w0 H) : Lm24 w0 wr' b bt br bc G r md := ⟨h.lz.keeps hc h1 hs, h.mi.chg hc (fun k e g => h2 k e (ftM_one g)), h.ap⟩
structure Ld24 (w0 wr : World) (b bt br bc : Nat) (G : Ft) (r : Rg) (md : Md) (bb : Nat) : Prop where
 lm : Lm24 w0 wr b bt br bc G r md
 bx : Hp wr bb 45 [md.um, md.uc]
 nb : ¬ G bb
variable {bb : Nat}
theorem Ld24.below (h : Ld24 w0 wr b bt br bc G r md bb) (hb : Below wr.heap.size wr wr') : Ld24 w0 wr' b bt br bc G r md bb := ⟨h.lm.below hb, h.bx.below hb h.bx.lt, h.nb⟩
theorem Ld24.next (h : Ld24 w0 wr b bt br bc G r md bb) (hl : Lr wr' b bt br bc G' r') (hn : Nx wr wr' G G') (hk : r'.Ok) : Ld24 w0 wr' b bt br bc G' r' md bb :=
 ⟨h.lm.next hl hn hk, h.bx.chg hn.chg h.nb, fun e => (hn.new bb e).elim h.nb (fun q => by have := h.bx.lt; omega)⟩
theorem Ld24.put (h : Ld24 w0 wr b bt br bc G r md bb) {g : Nat} (h1 : ¬ G g) (h2 : ¬ ftM [md] g) (h3 : g ≠ bb) (h4 : w0.heap.size <= g) (i : Nat) (v : Value) : Ld24 w0 (wr.setCell ⟨g, i, none⟩ v) b bt br bc G r md bb :=
 ⟨h.lm.keeps (Chg.set wr g i v) (fun k e q => h1 (by rw [<- e]; exact q)) (fun k e q => h2 (by rw [<- e]; exact q)) (fun k e => by rw [e]; exact h4), h.bx.far (fun e => h3 e.symm), h.nb⟩
theorem lmodule_yes (h : Lr wr b bt br bc G r) (hk : r.Ok) (n : Int) (hs : r.st n <= 1) {ms : List Int} {xs : List In} {s : Nat} {ep : Int} (hp : r.pg n = ⟨ms, xs, s, ep⟩) : Calls Tryz.prog 17 #[.pointer (some ⟨b, 0, none⟩), .int .i64 n] wr fun e w' => ∃ a c a' c', e = .returned (.tuple #[.agg #[.slice a ms.length c, .slice a' xs.length c'], .bool true]) /\ w'.ownsRow wr.heap.size 3 1 (.slice a ms.length c) ms.length (ms.map (Value.int .i64)) /\ w'.ownsRow wr.heap.size 67 5 (.slice a' xs.length c') xs.length (flat xs) /\ Below wr.heap.size wr w' := by
 refine lmodule h hk n (show Hid (_ -> _) from fun _ um uc w' o1 o2 hb => ?_) (show Hid (_ -> _) from fun e => absurd e (by omega))
 rw [hp] at o1 o2
 obtain ⟨a, c, e1⟩ := own_shape o1
 obtain ⟨a', c', e2⟩ := own_shape o2
 simp only at e1 e2
 subst e1 e2
 exact ⟨a, c, a', c', rfl, o1, o2, hb⟩
theorem put5 {B g c n j : Nat} {zs : List Value} (h : wr.ownsRow B 67 5 (.slice (some ⟨g, 0, none⟩) n c) n zs) (v0 v1 v2 v3 v4 : Value) : ∃ zs', (((((wr.setCell ⟨g, j * 5, none⟩ v0).setCell ⟨g, j * 5 + 1, none⟩ v1).setCell ⟨g, j * 5 + 2, none⟩ v2).setCell ⟨g, j * 5 + 3, none⟩ v3).setCell ⟨g, j * 5 + 4, none⟩ v4).ownsRow B 67 5 (.slice (some ⟨g, 0, none⟩) n c) n zs' :=
 ⟨_, ((((((h.stored (j * 5) v0).1.stored (j * 5 + 1) v1).1.stored (j * 5 + 2) v2).1.stored (j * 5 + 3) v3).1.stored (j * 5 + 4) v4).1)⟩
theorem row_cell {B g c n z : Nat} {e : TypeId} {zs : List Value} (h : wr.ownsRow B e z (.slice (some ⟨g, 0, none⟩) n c) n zs) {i : Nat} (hi : i < n * z) : ∃ v, wr.cell? ⟨g, i, none⟩ = some v /\ wr.frozen? ⟨g, i, none⟩ = false := by
 have hl : zs.length = n * z := h.1
 obtain ⟨v, hv⟩ : ∃ v, zs[i]? = some v := ⟨zs[i]'(by omega), List.getElem?_eq_getElem (by omega)⟩
 have := h.cells (g := g) rfl i v hv
 rw [Addr.add_lit, Nat.zero_add] at this
 exact ⟨v, this, h.frozenAt _⟩
end
section
variable {w0 wr wr' : World} {b bt br bc bb b15 base : Nat} {G : Ft} {r : Rg} {md : Md}
structure Wr24 (w0 wr : World) (b bt br bc : Nat) (G : Ft) (r : Rg) (md : Md) (bb b15 base : Nat) (mv cv : Value) (nm nx : Nat) : Prop where
 ld : Ld24 w0 wr b bt br bc G r md bb
 bx : Hp wr b15 45 [mv, cv]
 rm : ∃ ys, wr.ownsRow base 3 1 mv nm ys
 rc : ∃ zs, wr.ownsRow base 67 5 cv nx zs
 hg : ∀ k, base <= k -> ¬ G k /\ ¬ ftM [md] k /\ w0.heap.size <= k
theorem Wr24.putC {g c nx nm j : Nat} {mv : Value} (h : Wr24 w0 wr b bt br bc G r md bb b15 base mv (.slice (some ⟨g, 0, none⟩) nx c) nm nx) (v0 v1 v2 v3 v4 : Value) : Wr24 w0 (((((wr.setCell ⟨g, j * 5, none⟩ v0).setCell ⟨g, j * 5 + 1, none⟩ v1).setCell ⟨g, j * 5 + 2, none⟩ v2).setCell ⟨g, j * 5 + 3, none⟩ v3).setCell ⟨g, j * 5 + 4, none⟩ v4) b bt br bc G r md bb b15 base mv (.slice (some ⟨g, 0, none⟩) nx c) nm nx := by
 obtain ⟨ys, h1⟩ := h.rm
 obtain ⟨zs, h2⟩ := h.rc
 have hb := (h2.lt g rfl).1
 obtain ⟨a1, a2, a3⟩ := h.hg g hb
 have n1 : g ≠ bb := fun e => own_type10 h2 h.ld.bx (by decide) (by rw [e]; rfl)
 have n2 : b15 ≠ g := fun e => own_type10 h2 h.bx (by decide) (by rw [<- e]; rfl)
 have hm : ∀ k, k = g -> ¬ mv.ownBlock = some k := fun k e q => own_twoG h1 h2 (by decide) k q (by rw [e]; rfl)
 have cg : ∀ (wx : World) (i : Nat) (v : Value), wx.ownsRow base 3 1 mv nm ys -> (wx.setCell ⟨g, i, none⟩ v).ownsRow base 3 1 mv nm ys := fun wx i v q => own_chg q (Chg.set wx g i v) (fun k hk e => hm k e hk)
 refine ⟨(((((h.ld.put a1 a2 n1 a3 _ v0).put a1 a2 n1 a3 _ v1).put a1 a2 n1 a3 _ v2).put a1 a2 n1 a3 _ v3).put a1 a2 n1 a3 _ v4), (((((h.bx.far n2).far n2).far n2).far n2).far n2), ⟨ys, cg _ _ _ (cg _ _ _ (cg _ _ _ (cg _ _ _ (cg _ _ _ h1))))⟩, put5 h2 v0 v1 v2 v3 v4, h.hg⟩
theorem Wr24.putM {g c nx nm j : Nat} {cv : Value} (h : Wr24 w0 wr b bt br bc G r md bb b15 base (.slice (some ⟨g, 0, none⟩) nm c) cv nm nx) (v : Value) : Wr24 w0 (wr.setCell ⟨g, j, none⟩ v) b bt br bc G r md bb b15 base (.slice (some ⟨g, 0, none⟩) nm c) cv nm nx := by
 obtain ⟨ys, h1⟩ := h.rm
 obtain ⟨zs, h2⟩ := h.rc
 have hb := (h1.lt g rfl).1
 obtain ⟨a1, a2, a3⟩ := h.hg g hb
 have n1 : g ≠ bb := fun e => own_type10 h1 h.ld.bx (by decide) (by rw [e]; rfl)
 have n2 : b15 ≠ g := fun e => own_type10 h1 h.bx (by decide) (by rw [<- e]; rfl)
 exact ⟨h.ld.put a1 a2 n1 a3 _ v, h.bx.far n2, ⟨_, (h1.stored j v).1⟩, ⟨zs, own_chg h2 (Chg.set wr g j v) (fun k hk e => own_twoG h2 h1 (by decide) k hk (by rw [e]; rfl))⟩, h.hg⟩
end
set_option maxHeartbeats 1600000 in
theorem loads_no (m : Int) (hm : m < 0 ∨ 4 < m) (v : Value) (w : World) : Calls Tryz.prog 6 #[.int .i64 m, v] w fun e w' => e = .returned (.bool true) /\ Below w.heap.size w w' := by
 go_enter Tryz.func6, Tryz.ntmps6
 go_wp2_with (first
  | (go_at_call 8; go_must (refine (awake24_any _).mono ?_); rintro e ww ⟨rfl, hb⟩; go_must (have HBW := keepG hb; clear hb))
  | (go_at_call 9; go_must (refine (lrnew_no 1 m 1 (.inr (.inl hm)) _).mono ?_); rintro e wn ⟨rfl, hb⟩; go_must (have HBN := keepG (HBW.out.trans (hb.mono HBW.out.size)); clear hb)))
 go_ret
 exact ⟨rfl, HBN.out⟩
set_option maxHeartbeats 3200000 in
theorem loads_dec (m : Nat) (hm4 : m <= 4) {v : Value} {bs : List Int} {w : World} (hs : Sees .u8 w v bs) (hl : bs.length <= 140737488351232) {ms : List Int} {xs : List In} {q e : Int} (hd : decL bs = ((ms, xs), q, e)) (he : e ≠ 0) : Calls Tryz.prog 6 #[.int .i64 m, v] w fun e w' => e = .returned (.bool true) /\ Below w.heap.size w w' := by
 have heB : (e == 0) = false := by simpa using he
 have heN : (e != 0) = true := by simpa using he
 have heS : (e == e) = true := by simp
 have HERR : Hid (errB bs = e) := by show _ = _; unfold errB; rw [hd, if_pos (show e ≠ 0 from he)]
 have HE := keepG he
 clear he
 obtain ⟨u0, hu0, hu1, hu2, hu3⟩ := info_parts infoU8W
 have hby := hs.bytes24
 have HWF : Hid (∀ x ∈ bs, (Lit.int .u8 x).wf = true) := wf_bytes hby
 have HBY := keepG hby
 have HSB := keepG (fun (wr : World) (hb : Below w.heap.size w wr) => hs.below hb (Nat.le_refl _))
 have HD := keepG hd
 clear hs hby hd
 go_enter Tryz.func6, Tryz.ntmps6
 go_wp2_with (first
  | (go_at_call 8; go_must (refine (awake24_any _).mono ?_); rintro e ww ⟨rfl, hb⟩; go_must (have HBW := keepG hb; clear hb))
  | (go_at_call 9; go_must (refine (lz24_new (w0 := w) 1 m 1 (by omega) (by omega) hm4 (by omega) (by omega) HBW.out).mono ?_); rintro e wn ⟨b, bt, br, bc, G0, rfl, hL⟩; go_must (have HL := keepG hL; clear hL))
  | (at_builtin; go_must (refine wpList_append_sees rfl _ _ 32 rfl wn.heap.size 5 u0 (.int .u8 0) 1 Tryz.underlying32 hu0 hu1 hu2 hu3 rfl .u8 (.slice (some ⟨wn.heap.size, 0, none⟩) 0 0) [] rfl (own_empty24 wn _ _) _ bs rfl ((HSB.out wn HL.out.be).below ((Below.refl _ _).alloc (Nat.le_refl _) _) (Nat.le_refl _)) (by unfold maxLen; simp; omega) (by simp; omega) (by simp) ?_); intro v1 wa hown1 hg1; go_must (have hB1 := grown_new24 hg1; have HSA := keepG (Sees.own (by simpa using hown1) HWF.out); have HBA := keepG hB1; obtain ⟨va, vc, ev⟩ := own_shape hown1; clear hown1 hg1 hB1; subst ev))
  | (go_at_call 23; go_must (refine (decOwn HSA.out HBY.out HD).mono ?_); rintro e1 w1 ⟨ma, mc, xa, xc, rfl, g1, g2, g3, g4⟩; dsimp only [modV]; go_must (obtain ⟨W1, W2, HW1, HW2, ⟨n0, n1⟩, ⟨f0, f1⟩, HP2, HB2⟩ := boxM24 w1 (.slice ma ms.length mc) (.slice xa xs.length xc); have HLM : Hid (Lm24 w W2 b bt br bc G0 (rD m ms xs 0) ⟨.slice ma ms.length mc, .slice xa xs.length xc, ms, xs⟩) := Lm24.below ⟨(HL.out.below HBA.out).below g4, g1, fun k e g => (by have h1 := HL.out.reg.lies k g; have h3 := HBA.out.size; obtain ⟨q, hq, e⟩ := e; rw [List.mem_singleton.1 hq] at e; rcases e with e | e; (have h2 := g2 k e; omega); (have h2 := g3 k e; omega))⟩ HB2.out; have p0 := HP2.out.cell (j := 0) rfl; have p1 := HP2.out.cell (j := 1) rfl; have HB1S : Hid (wa.heap.size <= w1.heap.size) := g4.size; clear g1 g2 g3 g4))
  | (rw [HW1.out])
  | (rw [HW2.out]))
 go_loopw [9, 10] (fun bd i wr => bd = .int .i64 e /\ i = .int .i64 0 /\ Hid (W2 = wr)) (fun _ i _ => 1 - (intOf i).toNat)
 case atStart => exact ⟨rfl, rfl, rfl⟩
 case round =>
  obtain ⟨rfl, rfl, HEW⟩ := hrel
  rename World => wz
  have HLZ := HLM
  rw [HEW.out] at HLZ
  have heN2 : (e == 0) = false := heB
  go_wp2
  go_loopw [11] (fun i wr => i = .int .i64 1 /\ Hid (wz = wr)) (fun i _ => 17 - (intOf i).toNat)
  case atStart => exact ⟨rfl, rfl⟩
  case round =>
   obtain ⟨rfl, HEQ⟩ := hrel
   have HLQ := HLZ
   rw [HEQ.out] at HLQ
   rename World => wq
   have HBD := keepG (rD_bad (m := m) (fun _ => HERR.out.symm) (fun g => absurd (HERR.out.symm.trans g) HE.out) HE.out ms xs)
   have hbe : Below w.heap.size w wq := HLQ.out.lz.be
   have HLV := keepG (fun (wx : World) (hl : Lr wx b bt br bc G0 (rD m ms xs 0)) => hl)
   go_wp2_with (first
    | (at_builtin; go_must (refine wpList_append_sees rfl _ _ 32 rfl wq.heap.size 5 u0 (.int .u8 0) 1 Tryz.underlying32 hu0 hu1 hu2 hu3 rfl .u8 (.slice (some ⟨wq.heap.size, 0, none⟩) 0 0) [] rfl (own_empty24 wq _ _) _ bs rfl ((HSB.out wq hbe).below ((Below.refl _ _).alloc (Nat.le_refl _) _) (Nat.le_refl _)) (by unfold maxLen; simp; omega) (by simp; omega) (by simp) ?_); intro v1 wa hown1 hg1; go_must (have hB1 := grown_new24 hg1; have HSA := keepG (Sees.own (by simpa using hown1) HWF.out); have HBA := keepG hB1; obtain ⟨va, vc, ev⟩ := own_shape hown1; have HLA2 := keepG (HLQ.out.lz.below hB1); clear hown1 hg1 hB1; subst ev))
    | (go_at_call 25; go_must (refine (HLA2.out.reg.load HLA2.out.ok (by rw [rD_zero]; simp [Rg.new]) HSA.out HBY.out HBD).mono ?_); rintro e5 w5 ⟨rfl, G5, hl5, hn5⟩; go_must (have HL5 := keepG (HLA2.out.next hl5 hn5 HLA2.out.ok); clear hl5 hn5))
    | (go_at_call 15; go_must (refine (HL5.out.reg.live HL5.out.ok).mono ?_); rintro e6 w6 ⟨u6, rfl, hu6, hb6⟩; go_must (rw [(show (rD m ms xs 0).live = [] from List.eq_nil_of_length_eq_zero (rD_live m ms xs 0))] at hu6; obtain ⟨ya, yc, ey⟩ := own_shape hu6; subst ey; have HB6 := keepG (HL5.out.below hb6); clear hu6 hb6)))
   go_ret
   exact ⟨rfl, HB6.out.be⟩
set_option maxHeartbeats 3200000 in
theorem loads_jud (m : Nat) (hm4 : m <= 4) {v : Value} {bs : List Int} {w : World} (hs : Sees .u8 w v bs) (hl : bs.length <= 140737488351232) {ms : List Int} {xs : List In} {q : Int} (hd : decL bs = ((ms, xs), q, 0)) {jp je : Int} (hj : Hid (judgeR ms xs = (jp, je))) (he : je ≠ 0) : Calls Tryz.prog 6 #[.int .i64 m, v] w fun e w' => e = .returned (.bool true) /\ Below w.heap.size w w' := by
 have heB : (je == 0) = false := by simpa using he
 have heN : (je != 0) = true := by simpa using he
 have heS : (je == je) = true := by simp
 have HERR : Hid (errB bs = je) := by show _ = _; unfold errB; rw [hd, if_neg (by simp)]; show (judgeR ms xs).2 = je; rw [hj.out]
 have HE := keepG he
 clear he
 obtain ⟨u0, hu0, hu1, hu2, hu3⟩ := info_parts infoU8W
 have hby := hs.bytes24
 have HWF : Hid (∀ x ∈ bs, (Lit.int .u8 x).wf = true) := wf_bytes hby
 have HBY := keepG hby
 have HSB := keepG (fun (wr : World) (hb : Below w.heap.size w wr) => hs.below hb (Nat.le_refl _))
 have HD := keepG hd
 clear hs hby hd
 go_enter Tryz.func6, Tryz.ntmps6
 go_wp2_with (first
  | (go_at_call 8; go_must (refine (awake24_any _).mono ?_); rintro e ww ⟨rfl, hb⟩; go_must (have HBW := keepG hb; clear hb))
  | (go_at_call 9; go_must (refine (lz24_new (w0 := w) 1 m 1 (by omega) (by omega) hm4 (by omega) (by omega) HBW.out).mono ?_); rintro e wn ⟨b, bt, br, bc, G0, rfl, hL⟩; go_must (have HL := keepG hL; clear hL))
  | (at_builtin; go_must (refine wpList_append_sees rfl _ _ 32 rfl wn.heap.size 5 u0 (.int .u8 0) 1 Tryz.underlying32 hu0 hu1 hu2 hu3 rfl .u8 (.slice (some ⟨wn.heap.size, 0, none⟩) 0 0) [] rfl (own_empty24 wn _ _) _ bs rfl ((HSB.out wn HL.out.be).below ((Below.refl _ _).alloc (Nat.le_refl _) _) (Nat.le_refl _)) (by unfold maxLen; simp; omega) (by simp; omega) (by simp) ?_); intro v1 wa hown1 hg1; go_must (have hB1 := grown_new24 hg1; have HSA := keepG (Sees.own (by simpa using hown1) HWF.out); have HBA := keepG hB1; obtain ⟨va, vc, ev⟩ := own_shape hown1; clear hown1 hg1 hB1; subst ev))
  | (go_at_call 23; go_must (refine (decOwn HSA.out HBY.out HD).mono ?_); rintro e1 w1 ⟨ma, mc, xa, xc, rfl, g1, g2, g3, g4⟩; dsimp only [modV]; go_must (obtain ⟨W1, W2, HW1, HW2, ⟨n0, n1⟩, ⟨f0, f1⟩, HP2, HB2⟩ := boxM24 w1 (.slice ma ms.length mc) (.slice xa xs.length xc); have HLM : Hid (Lm24 w W2 b bt br bc G0 (rD m ms xs 0) ⟨.slice ma ms.length mc, .slice xa xs.length xc, ms, xs⟩) := Lm24.below ⟨(HL.out.below HBA.out).below g4, g1, fun k e g => (by have h1 := HL.out.reg.lies k g; have h3 := HBA.out.size; obtain ⟨q, hq, e⟩ := e; rw [List.mem_singleton.1 hq] at e; rcases e with e | e; (have h2 := g2 k e; omega); (have h2 := g3 k e; omega))⟩ HB2.out; have p0 := HP2.out.cell (j := 0) rfl; have p1 := HP2.out.cell (j := 1) rfl; have HB1S : Hid (wa.heap.size <= w1.heap.size) := g4.size; clear g1 g2 g3 g4))
  | (rw [HW1.out])
  | (rw [HW2.out])
  | (go_at_call 24; go_must (refine (ljudge_as (Sees.own HLM.out.mi.om HLM.out.mi.wm) (own_seesI HLM.out.mi.oc) hj).mono ?_); rintro e2 w3 ⟨rfl, g5⟩; go_must (have HL3 := keepG (HLM.out.below g5); have HP3 := keepG (HP2.out.below g5 HP2.out.lt); clear p0 p1; have p0 := HP3.out.cell (j := 0) rfl; have p1 := HP3.out.cell (j := 1) rfl; clear g5)))
 go_loopw [9, 10] (fun bd i wr => bd = .int .i64 je /\ i = .int .i64 0 /\ Hid (w3 = wr)) (fun _ i _ => 1 - (intOf i).toNat)
 case atStart => exact ⟨rfl, rfl, rfl⟩
 case round =>
  obtain ⟨rfl, rfl, HEW⟩ := hrel
  rename World => wz
  have HLZ := HL3
  rw [HEW.out] at HLZ
  have heN2 : (je == 0) = false := heB
  go_wp2
  go_loopw [11] (fun i wr => i = .int .i64 1 /\ Hid (wz = wr)) (fun i _ => 17 - (intOf i).toNat)
  case atStart => exact ⟨rfl, rfl⟩
  case round =>
   obtain ⟨rfl, HEQ⟩ := hrel
   have HLQ := HLZ
   rw [HEQ.out] at HLQ
   rename World => wq
   have HBD := keepG (rD_bad (m := m) (fun _ => HERR.out.symm) (fun g => absurd (HERR.out.symm.trans g) HE.out) HE.out ms xs)
   have hbe : Below w.heap.size w wq := HLQ.out.lz.be
   have HLV := keepG (fun (wx : World) (hl : Lr wx b bt br bc G0 (rD m ms xs 0)) => hl)
   go_wp2_with (first
    | (at_builtin; go_must (refine wpList_append_sees rfl _ _ 32 rfl wq.heap.size 5 u0 (.int .u8 0) 1 Tryz.underlying32 hu0 hu1 hu2 hu3 rfl .u8 (.slice (some ⟨wq.heap.size, 0, none⟩) 0 0) [] rfl (own_empty24 wq _ _) _ bs rfl ((HSB.out wq hbe).below ((Below.refl _ _).alloc (Nat.le_refl _) _) (Nat.le_refl _)) (by unfold maxLen; simp; omega) (by simp; omega) (by simp) ?_); intro v1 wa hown1 hg1; go_must (have hB1 := grown_new24 hg1; have HSA := keepG (Sees.own (by simpa using hown1) HWF.out); have HBA := keepG hB1; obtain ⟨va, vc, ev⟩ := own_shape hown1; have HLA2 := keepG (HLQ.out.lz.below hB1); clear hown1 hg1 hB1; subst ev))
    | (go_at_call 25; go_must (refine (HLA2.out.reg.load HLA2.out.ok (by rw [rD_zero]; simp [Rg.new]) HSA.out HBY.out HBD).mono ?_); rintro e5 w5 ⟨rfl, G5, hl5, hn5⟩; go_must (have HL5 := keepG (HLA2.out.next hl5 hn5 HLA2.out.ok); clear hl5 hn5))
    | (go_at_call 15; go_must (refine (HL5.out.reg.live HL5.out.ok).mono ?_); rintro e6 w6 ⟨u6, rfl, hu6, hb6⟩; go_must (rw [(show (rD m ms xs 0).live = [] from List.eq_nil_of_length_eq_zero (rD_live m ms xs 0))] at hu6; obtain ⟨ya, yc, ey⟩ := own_shape hu6; subst ey; have HB6 := keepG (HL5.out.below hb6); clear hu6 hb6)))
   go_ret
   exact ⟨rfl, HB6.out.be⟩
set_option maxHeartbeats 3200000 in
theorem loads_maps (m : Nat) (hm4 : m <= 4) {v : Value} {bs : List Int} {w : World} (hs : Sees .u8 w v bs) (hl : bs.length <= 140737488351232) {ms : List Int} {xs : List In} {q : Int} (hd : decL bs = ((ms, xs), q, 0)) {jp : Int} (hj : Hid (judgeR ms xs = (jp, 0))) (hall : ms.all (fun x => decide (x < m)) = false) : Calls Tryz.prog 6 #[.int .i64 m, v] w fun e w' => e = .returned (.bool true) /\ Below w.heap.size w w' := by
 have HERR : Hid (errB bs = 0) := by show _ = _; unfold errB; rw [hd, if_neg (by simp)]; show (judgeR ms xs).2 = 0; rw [hj.out]
 have HALL : Hid ((decL bs).1.1.all (fun x => decide (x < m)) = false) := by show _ = _; rw [hd]; exact hall
 have HAL2 := keepG hall
 have heS : ((41 : Int) == 41) = true := by simp
 clear hall
 obtain ⟨u0, hu0, hu1, hu2, hu3⟩ := info_parts infoU8W
 have hby := hs.bytes24
 have HWF : Hid (∀ x ∈ bs, (Lit.int .u8 x).wf = true) := wf_bytes hby
 have HBY := keepG hby
 have HSB := keepG (fun (wr : World) (hb : Below w.heap.size w wr) => hs.below hb (Nat.le_refl _))
 have HD := keepG hd
 clear hs hby hd
 go_enter Tryz.func6, Tryz.ntmps6
 go_wp2_with (first
  | (go_at_call 8; go_must (refine (awake24_any _).mono ?_); rintro e ww ⟨rfl, hb⟩; go_must (have HBW := keepG hb; clear hb))
  | (go_at_call 9; go_must (refine (lz24_new (w0 := w) 1 m 1 (by omega) (by omega) hm4 (by omega) (by omega) HBW.out).mono ?_); rintro e wn ⟨b, bt, br, bc, G0, rfl, hL⟩; go_must (have HL := keepG hL; clear hL))
  | (at_builtin; go_must (refine wpList_append_sees rfl _ _ 32 rfl wn.heap.size 5 u0 (.int .u8 0) 1 Tryz.underlying32 hu0 hu1 hu2 hu3 rfl .u8 (.slice (some ⟨wn.heap.size, 0, none⟩) 0 0) [] rfl (own_empty24 wn _ _) _ bs rfl ((HSB.out wn HL.out.be).below ((Below.refl _ _).alloc (Nat.le_refl _) _) (Nat.le_refl _)) (by unfold maxLen; simp; omega) (by simp; omega) (by simp) ?_); intro v1 wa hown1 hg1; go_must (have hB1 := grown_new24 hg1; have HSA := keepG (Sees.own (by simpa using hown1) HWF.out); have HBA := keepG hB1; obtain ⟨va, vc, ev⟩ := own_shape hown1; clear hown1 hg1 hB1; subst ev))
  | (go_at_call 23; go_must (refine (decOwn HSA.out HBY.out HD).mono ?_); rintro e1 w1 ⟨ma, mc, xa, xc, rfl, g1, g2, g3, g4⟩; dsimp only [modV]; go_must (obtain ⟨W1, W2, HW1, HW2, ⟨n0, n1⟩, ⟨f0, f1⟩, HP2, HB2⟩ := boxM24 w1 (.slice ma ms.length mc) (.slice xa xs.length xc); have HLM : Hid (Lm24 w W2 b bt br bc G0 (rD m ms xs 0) ⟨.slice ma ms.length mc, .slice xa xs.length xc, ms, xs⟩) := Lm24.below ⟨(HL.out.below HBA.out).below g4, g1, fun k e g => (by have h1 := HL.out.reg.lies k g; have h3 := HBA.out.size; obtain ⟨q, hq, e⟩ := e; rw [List.mem_singleton.1 hq] at e; rcases e with e | e; (have h2 := g2 k e; omega); (have h2 := g3 k e; omega))⟩ HB2.out; have p0 := HP2.out.cell (j := 0) rfl; have p1 := HP2.out.cell (j := 1) rfl; have HB1S : Hid (wa.heap.size <= w1.heap.size) := g4.size; clear g1 g2 g3 g4))
  | (rw [HW1.out])
  | (rw [HW2.out])
  | (go_at_call 24; go_must (refine (ljudge_as (Sees.own HLM.out.mi.om HLM.out.mi.wm) (own_seesI HLM.out.mi.oc) hj).mono ?_); rintro e2 w3 ⟨rfl, g5⟩; go_must (have HL3 := keepG (HLM.out.below g5); have HP3 := keepG (HP2.out.below g5 HP2.out.lt); clear p0 p1; have p0 := HP3.out.cell (j := 0) rfl; have p1 := HP3.out.cell (j := 1) rfl; clear g5)))
 go_loopw [9, 10] (fun bd i wr => ∃ j : Nat, j <= ms.length /\ i = .int .i64 j /\ ∃ E : Int, bd = .int .i64 E /\ Hid (w3 = wr) /\ Hid ((E = 0 /\ ∀ k, k < j -> ms.getD k 0 < m) ∨ E = 41)) (fun _ i _ => ms.length - (intOf i).toNat)
 case atStart => exact ⟨0, by omega, rfl, 0, rfl, rfl, .inl ⟨rfl, fun k h => by omega⟩⟩
 case round =>
  obtain ⟨j, hjl, rfl, E, rfl, HEW, HOR⟩ := hrel
  rename World => wz
  have HLZ := HL3
  rw [HEW.out] at HLZ
  have HPZ := HP3
  rw [HEW.out] at HPZ
  clear p0 p1
  have p0 := HPZ.out.cell (j := 0) rfl
  have p1 := HPZ.out.cell (j := 1) rfl
  rcases HOR.out with ⟨rfl, hlo⟩ | rfl
  ·by_cases hlt : j < ms.length
   ·have hltI : (j : Int) < ms.length := by omega
    obtain ⟨g, ea, hml, d0⟩ : ∃ g, ma = some ⟨g, 0, none⟩ /\ ms.length <= 9223372036854775807 /\ wz.cell? ⟨g, j, none⟩ = some (.int .i64 (ms.getD j 0)) := by
     obtain ⟨g, cap, e, _, _, hc1, hc2, hat⟩ := own_open HLZ.out.mi.om (by show 0 < ms.length; omega)
     simp only at e
     injection e with e1
     unfold maxLen at hc2
     exact ⟨g, e1, (by have hc1 : ms.length <= cap := hc1; omega), hat j _ (by simp [List.getD, hlt])⟩
    subst ea
    have HMD := keepG (getD_mem ms j hlt)
    obtain ⟨x, HMV⟩ : ∃ x, Hid (ms.getD j 0 = x) := ⟨_, rfl⟩
    rw [HMV.out] at d0 HMD
    by_cases hx : x < m
    ·have hxI : ¬ x ≥ m := by omega
     have HN : Hid (∀ k, k < j + 1 -> ms.getD k 0 < m) := fun k hk => by
      by_cases e : k = j
      ·rw [e, HMV.out]; exact hx
      ·exact hlo k (by omega)
     clear hlo HOR
     go_wp2
     go_roundw
     case rel => exact ⟨j + 1, by omega, by go_num, 0, rfl, HEW.out, .inl ⟨rfl, HN.out⟩⟩
     case measure => simp [intOf]; omega
    ·have hxI : x ≥ m := by omega
     clear hlo HOR
     go_wp2
     go_roundw
     case rel => exact ⟨j + 1, by omega, by go_num, 41, rfl, HEW.out, .inr rfl⟩
     case measure => simp [intOf]; omega
   ·exfalso
    have h1 := HAL2.out
    rw [Bool.eq_false_iff] at h1
    refine h1 (List.all_eq_true.2 (fun y hy => ?_))
    obtain ⟨k, hk1, e⟩ := List.getElem_of_mem hy
    have h2 := hlo k (by omega)
    have e2 : ms.getD k 0 = ms[k] := by simp [List.getD, hk1]
    rw [e2, e] at h2
    exact decide_eq_true h2
  ·go_wp2
   go_loopw [11] (fun i wr => i = .int .i64 1 /\ Hid (wz = wr)) (fun i _ => 17 - (intOf i).toNat)
   case atStart => exact ⟨rfl, rfl⟩
   case round =>
    obtain ⟨rfl, HEQ⟩ := hrel
    have HLQ := HLZ
    rw [HEQ.out] at HLQ
    rename World => wq
    have HBD := keepG (rD_bad (m := m) (fun g => absurd HERR.out g) (fun _ => ⟨HALL.out, rfl⟩) (by decide) ms xs)
    have hbe : Below w.heap.size w wq := HLQ.out.lz.be
    have HLV := keepG (fun (wx : World) (hl : Lr wx b bt br bc G0 (rD m ms xs 0)) => hl)
    go_wp2_with (first
     | (at_builtin; go_must (refine wpList_append_sees rfl _ _ 32 rfl wq.heap.size 5 u0 (.int .u8 0) 1 Tryz.underlying32 hu0 hu1 hu2 hu3 rfl .u8 (.slice (some ⟨wq.heap.size, 0, none⟩) 0 0) [] rfl (own_empty24 wq _ _) _ bs rfl ((HSB.out wq hbe).below ((Below.refl _ _).alloc (Nat.le_refl _) _) (Nat.le_refl _)) (by unfold maxLen; simp; omega) (by simp; omega) (by simp) ?_); intro v1 wa hown1 hg1; go_must (have hB1 := grown_new24 hg1; have HSA := keepG (Sees.own (by simpa using hown1) HWF.out); have HBA := keepG hB1; obtain ⟨va, vc, ev⟩ := own_shape hown1; have HLA2 := keepG (HLQ.out.lz.below hB1); clear hown1 hg1 hB1; subst ev))
     | (go_at_call 25; go_must (refine (HLA2.out.reg.load HLA2.out.ok (by rw [rD_zero]; simp [Rg.new]) HSA.out HBY.out HBD).mono ?_); rintro e5 w5 ⟨rfl, G5, hl5, hn5⟩; go_must (have HL5 := keepG (HLA2.out.next hl5 hn5 HLA2.out.ok); clear hl5 hn5))
     | (go_at_call 15; go_must (refine (HL5.out.reg.live HL5.out.ok).mono ?_); rintro e6 w6 ⟨u6, rfl, hu6, hb6⟩; go_must (rw [(show (rD m ms xs 0).live = [] from List.eq_nil_of_length_eq_zero (rD_live m ms xs 0))] at hu6; obtain ⟨ya, yc, ey⟩ := own_shape hu6; subst ey; have HB6 := keepG (HL5.out.below hb6); clear hu6 hb6)))
    go_ret
    exact ⟨rfl, HB6.out.be⟩
set_option maxHeartbeats 12800000 in
theorem loads_ok (m : Nat) (hm4 : m <= 4) {v : Value} {bs : List Int} {w : World} (hs : Sees .u8 w v bs) (hl : bs.length <= 140737488351232) {ms : List Int} {xs : List In} {q : Int} (hd : decL bs = ((ms, xs), q, 0)) {jp : Int} (hj : Hid (judgeR ms xs = (jp, 0))) (hall : ms.all (fun x => decide (x < m)) = true) (hwf : ∀ i ∈ xs, i.wf) (hx64 : xs.length <= 64) (hm4l : ms.length <= 4) : Calls Tryz.prog 6 #[.int .i64 m, v] w fun e w' => e = .returned (.bool true) /\ Below w.heap.size w w' := by
 have HERR : Hid (errB bs = 0) := by show _ = _; unfold errB; rw [hd, if_neg (by simp)]; show (judgeR ms xs).2 = 0; rw [hj.out]
 have HAL2 := keepG (List.all_eq_true.1 hall)
 have HLOAD := keepG (fun d (hd16 : d < 16) => rD_load (m := m) (d := d) HERR.out (show (decL bs).1 = (ms, xs) by rw [hd]) hall hd16)
 have HFULL := keepG (rD_full (m := m) HERR.out (show (decL bs).1 = (ms, xs) by rw [hd]) hall)
 have HXWF := keepG hwf
 clear hall hwf
 obtain ⟨u0, hu0, hu1, hu2, hu3⟩ := info_parts infoU8W
 have hby := hs.bytes24
 have HWF : Hid (∀ x ∈ bs, (Lit.int .u8 x).wf = true) := wf_bytes hby
 have HBY := keepG hby
 have HSB := keepG (fun (wr : World) (hb : Below w.heap.size w wr) => hs.below hb (Nat.le_refl _))
 have HD := keepG hd
 clear hs hby hd
 go_enter Tryz.func6, Tryz.ntmps6
 go_wp2_with (first
  | (go_at_call 8; go_must (refine (awake24_any _).mono ?_); rintro e ww ⟨rfl, hb⟩; go_must (have HBW := keepG hb; clear hb))
  | (go_at_call 9; go_must (refine (lz24_new (w0 := w) 1 m 1 (by omega) (by omega) hm4 (by omega) (by omega) HBW.out).mono ?_); rintro e wn ⟨b, bt, br, bc, G0, rfl, hL⟩; go_must (have HL := keepG hL; clear hL))
  | (at_builtin; go_must (refine wpList_append_sees rfl _ _ 32 rfl wn.heap.size 5 u0 (.int .u8 0) 1 Tryz.underlying32 hu0 hu1 hu2 hu3 rfl .u8 (.slice (some ⟨wn.heap.size, 0, none⟩) 0 0) [] rfl (own_empty24 wn _ _) _ bs rfl ((HSB.out wn HL.out.be).below ((Below.refl _ _).alloc (Nat.le_refl _) _) (Nat.le_refl _)) (by unfold maxLen; simp; omega) (by simp; omega) (by simp) ?_); intro v1 wa hown1 hg1; go_must (have hB1 := grown_new24 hg1; have HSA := keepG (Sees.own (by simpa using hown1) HWF.out); have HBA := keepG hB1; obtain ⟨va, vc, ev⟩ := own_shape hown1; clear hown1 hg1 hB1; subst ev))
  | (go_at_call 23; go_must (refine (decOwn HSA.out HBY.out HD).mono ?_); rintro e1 w1 ⟨ma, mc, xa, xc, rfl, g1, g2, g3, g4⟩; dsimp only [modV]; go_must (obtain ⟨W1, W2, HW1, HW2, ⟨n0, n1⟩, ⟨f0, f1⟩, HP2, HB2⟩ := boxM24 w1 (.slice ma ms.length mc) (.slice xa xs.length xc); have HLM : Hid (Lm24 w W2 b bt br bc G0 (rD m ms xs 0) ⟨.slice ma ms.length mc, .slice xa xs.length xc, ms, xs⟩) := Lm24.below ⟨(HL.out.below HBA.out).below g4, g1, fun k e g => (by have h1 := HL.out.reg.lies k g; have h3 := HBA.out.size; obtain ⟨q, hq, e⟩ := e; rw [List.mem_singleton.1 hq] at e; rcases e with e | e; (have h2 := g2 k e; omega); (have h2 := g3 k e; omega))⟩ HB2.out; have p0 := HP2.out.cell (j := 0) rfl; have p1 := HP2.out.cell (j := 1) rfl; have HB1S : Hid (wa.heap.size <= w1.heap.size) := g4.size; clear g1 g2 g3 g4))
  | (rw [HW1.out])
  | (rw [HW2.out])
  | (go_at_call 24; go_must (refine (ljudge_as (Sees.own HLM.out.mi.om HLM.out.mi.wm) (own_seesI HLM.out.mi.oc) hj).mono ?_); rintro e2 w3 ⟨rfl, g5⟩; go_must (have HL3 := keepG (HLM.out.below g5); have HP3 := keepG (HP2.out.below g5 HP2.out.lt); clear p0 p1; have p0 := HP3.out.cell (j := 0) rfl; have p1 := HP3.out.cell (j := 1) rfl; clear g5)))
 go_loopw [9, 10] (fun bd i wr => ∃ j : Nat, j <= ms.length /\ i = .int .i64 j /\ bd = .int .i64 0 /\ Hid (w3 = wr)) (fun _ i _ => ms.length - (intOf i).toNat)
 case atStart => exact ⟨0, by omega, rfl, rfl, rfl⟩
 case round =>
  obtain ⟨j, hjl, rfl, rfl, HEW⟩ := hrel
  rename World => wz
  have HLZ := HL3
  rw [HEW.out] at HLZ
  have HPZ := HP3
  rw [HEW.out] at HPZ
  clear p0 p1
  have p0 := HPZ.out.cell (j := 0) rfl
  have p1 := HPZ.out.cell (j := 1) rfl
  by_cases hlt : j < ms.length
  ·have hltI : (j : Int) < ms.length := by omega
   obtain ⟨g, ea, hml, d0⟩ : ∃ g, ma = some ⟨g, 0, none⟩ /\ ms.length <= 9223372036854775807 /\ wz.cell? ⟨g, j, none⟩ = some (.int .i64 (ms.getD j 0)) := by
    obtain ⟨g, cap, e, _, _, hc1, hc2, hat⟩ := own_open HLZ.out.mi.om (by show 0 < ms.length; omega)
    simp only at e
    injection e with e1
    unfold maxLen at hc2
    exact ⟨g, e1, (by have hc1 : ms.length <= cap := hc1; omega), hat j _ (by simp [List.getD, hlt])⟩
   subst ea
   have HMD := keepG (getD_mem ms j hlt)
   obtain ⟨x, HMV⟩ : ∃ x, Hid (ms.getD j 0 = x) := ⟨_, rfl⟩
   rw [HMV.out] at d0 HMD
   have hxI : ¬ x ≥ m := by have := HAL2.out x HMD.out; have := of_decide_eq_true this; omega
   go_wp2
   go_roundw
   case rel => exact ⟨j + 1, by omega, by go_num, rfl, HEW.out⟩
   case measure => simp [intOf]; omega
  ·have hltI : ¬ (j : Int) < ms.length := by omega
   have HLD : Hid (Ld24 w wz b bt br bc G0 (rD m ms xs 0) ⟨.slice ma ms.length mc, .slice xa xs.length xc, ms, xs⟩ w1.heap.size) := ⟨HLZ.out, HPZ.out, fun e => by have h1 := HL.out.reg.lies _ e; have h2 := HBA.out.size; have h3 := HB1S.out; omega⟩
   go_wp2
   clear p0 p1
   go_loopw [11] (fun i wr => ∃ d : Nat, d <= 16 /\ i = .int .i64 ((d : Int) + 1) /\ ∃ G, Hid (Ld24 w wr b bt br bc G (rD m ms xs d) ⟨.slice ma ms.length mc, .slice xa xs.length xc, ms, xs⟩ w1.heap.size)) (fun i _ => 17 - (intOf i).toNat)
   case atStart => exact ⟨0, by omega, rfl, G0, HLD.out⟩
   case round =>
    obtain ⟨d, hd16, rfl, G, HG⟩ := hrel
    rename World => wq
    have hbe : Below w.heap.size w wq := HG.out.lm.lz.be
    have hokd := HG.out.lm.lz.ok
    have hps : (rD m ms xs d).ps.length <= 1000000000000000 := by show (List.replicate d _).length <= _; simp; omega
    by_cases hd : d < 16
    ·have hdI : (d : Int) + 1 <= 16 := by omega
     have HQ := keepG (HLOAD.out d hd)
     have hok2 : (rD m ms xs (d + 1)).Ok := by have := hokd.loadB bs; rw [HQ.out] at this; exact this
     have hnn : ((d : Int) + 1 != (d : Int) + 1) = false := by simp
     go_wp2_with (first
      | (at_builtin; go_must (refine wpList_append_sees rfl _ _ 32 rfl wq.heap.size 5 u0 (.int .u8 0) 1 Tryz.underlying32 hu0 hu1 hu2 hu3 rfl .u8 (.slice (some ⟨wq.heap.size, 0, none⟩) 0 0) [] rfl (own_empty24 wq _ _) _ bs rfl ((HSB.out wq hbe).below ((Below.refl _ _).alloc (Nat.le_refl _) _) (Nat.le_refl _)) (by unfold maxLen; simp; omega) (by simp; omega) (by simp) ?_); intro v1 wa hown1 hg1; go_must (have hB1 := grown_new24 hg1; have HSA := keepG (Sees.own (by simpa using hown1) HWF.out); have HBA := keepG hB1; obtain ⟨va, vc, ev⟩ := own_shape hown1; have HLA2 := keepG (HG.out.below hB1); clear hown1 hg1 hB1; subst ev))
      | (go_at_call 25; go_must (refine (HLA2.out.lm.lz.reg.load hokd hps HSA.out HBY.out HQ).mono ?_); rintro e5 w5 ⟨rfl, G5, hl5, hn5⟩; go_must (have HL5 := keepG (HLA2.out.next hl5 hn5 hok2); clear hl5 hn5)))
     go_roundw
     case rel => exact ⟨d + 1, by omega, by go_num, G5, HL5.out⟩
     case measure => simp [intOf]; omega
    ·obtain rfl : d = 16 := by omega
     have HQ := HFULL
     have hlv := rD_live m ms xs 16
     have hst := rD_st m ms xs (d := 16) (by omega)
     have hpg := rD_pg m ms xs (d := 16) (by omega)
     go_wp2_with (first
      | (at_builtin; go_must (refine wpList_append_sees rfl _ _ 32 rfl wq.heap.size 5 u0 (.int .u8 0) 1 Tryz.underlying32 hu0 hu1 hu2 hu3 rfl .u8 (.slice (some ⟨wq.heap.size, 0, none⟩) 0 0) [] rfl (own_empty24 wq _ _) _ bs rfl ((HSB.out wq hbe).below ((Below.refl _ _).alloc (Nat.le_refl _) _) (Nat.le_refl _)) (by unfold maxLen; simp; omega) (by simp; omega) (by simp) ?_); intro v1 wa hown1 hg1; go_must (have hB1 := grown_new24 hg1; have HSA := keepG (Sees.own (by simpa using hown1) HWF.out); have HBA := keepG hB1; obtain ⟨va, vc, ev⟩ := own_shape hown1; have HLA2 := keepG (HG.out.below hB1); clear hown1 hg1 hB1; subst ev))
      | (go_at_call 25; go_must (refine (HLA2.out.lm.lz.reg.load hokd hps HSA.out HBY.out HQ).mono ?_); rintro e5 w5 ⟨rfl, G5, hl5, hn5⟩; go_must (have HL5 := keepG (HLA2.out.next hl5 hn5 hokd); clear hl5 hn5))
      | (go_at_call 15; go_must (refine (HL5.out.lm.lz.reg.live hokd).mono ?_); rintro e6 w6 ⟨u6, rfl, hu6, hb6⟩; go_must (obtain ⟨ya, yc, ey⟩ := own_shape hu6; rw [hlv] at ey; subst ey; have HL6 := keepG (HL5.out.below hb6); clear hu6 hb6))
      | (go_at_call 17; go_must (refine (lmodule_yes HL6.out.lm.lz.reg hokd 3 hst hpg).mono ?_); rintro e7 w7 ⟨qa, qc, ra, rc, rfl, o1, o2, hb7⟩; go_must (obtain ⟨W3, W4, HW3, HW4, ⟨n2, n3⟩, ⟨f2, f3⟩, HP4, HB4⟩ := boxM24 w7 (.slice qa ms.length qc) (.slice ra xs.length rc); have HL7 := keepG ((HL6.out.below hb7).below HB4.out); have HO1 := keepG (own_below o1 HB4.out (Nat.le_refl _)); have HO2 := keepG (own_below o2 HB4.out (Nat.le_refl _)); have HG6 : Hid (∀ k, w6.heap.size <= k -> ¬ G5 k /\ ¬ ftM [(⟨.slice ma ms.length mc, .slice xa xs.length xc, ms, xs⟩ : Md)] k /\ w.heap.size <= k) := (fun k hk => ⟨fun e => by have := HL6.out.lm.lz.reg.lies k e; omega, fun e => by obtain ⟨q, hq, e⟩ := e; rw [List.mem_singleton.1 hq] at e; (rcases e with e | e; (have := (HL6.out.lm.mi.om.lt k e).2; omega); (have := (HL6.out.lm.mi.oc.lt k e).2; omega)), by have := HL6.out.lm.lz.be.size; omega⟩); have HW4R : Hid (Wr24 w W4 b bt br bc G5 (rD m ms xs 16) ⟨.slice ma ms.length mc, .slice xa xs.length xc, ms, xs⟩ w1.heap.size w7.heap.size w6.heap.size (.slice qa ms.length qc) (.slice ra xs.length rc) ms.length xs.length) := ⟨HL7.out, HP4.out, ⟨_, HO1.out⟩, ⟨_, HO2.out⟩, HG6.out⟩; have p15 := HP4.out.cell (j := 1) rfl; have p14 := HP4.out.cell (j := 0) rfl; clear o1 o2 hb7))
      | (rw [HW3.out])
      | (rw [HW4.out]))
     obtain ⟨bb, HBB⟩ : ∃ bb, Hid (w1.heap.size = bb) := ⟨_, rfl⟩
     obtain ⟨b15, HB15⟩ : ∃ b15, Hid (w7.heap.size = b15) := ⟨_, rfl⟩
     rw [HBB.out, HB15.out] at HW4R ⊢
     obtain ⟨MM, HMM⟩ : ∃ MM : Md, Hid ((⟨.slice ma ms.length mc, .slice xa xs.length xc, ms, xs⟩ : Md) = MM) := ⟨_, rfl⟩
     rw [HMM.out] at HW4R
     clear p14 p15
     go_loopw [17] (fun i wr => ∃ j : Nat, j <= xs.length /\ i = .int .i64 j /\ Hid (Wr24 w wr b bt br bc G5 (rD m ms xs 16) MM bb b15 w6.heap.size (.slice qa ms.length qc) (.slice ra xs.length rc) ms.length xs.length)) (fun i _ => xs.length - (intOf i).toNat)
     case atStart => exact ⟨0, by omega, rfl, HW4R.out⟩
     case round =>
      obtain ⟨j, hj, rfl, HR⟩ := hrel
      rename World => wk
      have t0 := HR.out.bx.cell (j := 0) rfl
      have t1 := HR.out.bx.cell (j := 1) rfl
      by_cases hlt : j < xs.length
      ·have hltI : (j : Int) < xs.length := by omega
       obtain ⟨zs, h2⟩ := HR.out.rc
       obtain ⟨g, cp, cur, e, _⟩ := own_row h2 (by omega)
       injection e with e1 e2 e3
       subst e1
       obtain ⟨v0, c0, f0⟩ := row_cell h2 (i := j * 5) (by omega)
       obtain ⟨v1, c1, f1⟩ := row_cell h2 (i := j * 5 + 1) (by omega)
       obtain ⟨v2, c2, f2⟩ := row_cell h2 (i := j * 5 + 2) (by omega)
       obtain ⟨v3, c3, f3⟩ := row_cell h2 (i := j * 5 + 3) (by omega)
       obtain ⟨v4, c4, f4⟩ := row_cell h2 (i := j * 5 + 4) (by omega)
       clear h2 e2 e3
       have HP := keepG (Wr24.putC (j := j) HR.out (.int .i64 90) (.int .i64 0) (.int .i64 0) (.int .i64 0) (.int .i64 0))
       go_wp2
       go_roundw
       case rel => exact ⟨j + 1, by omega, by go_num, HP.out⟩
       case measure => simp [intOf]; omega
      ·have hltI : ¬ (j : Int) < xs.length := by omega
       have HRW := HR
       go_wp2
       go_loopw [18] (fun i wr => ∃ j : Nat, j <= ms.length /\ i = .int .i64 j /\ Hid (Wr24 w wr b bt br bc G5 (rD m ms xs 16) MM bb b15 w6.heap.size (.slice qa ms.length qc) (.slice ra xs.length rc) ms.length xs.length)) (fun i _ => ms.length - (intOf i).toNat)
       case atStart => exact ⟨0, by omega, rfl, HRW.out⟩
       case round =>
        clear t0 t1 HRW HR
        obtain ⟨j2, hj2, rfl, HR⟩ := hrel
        rename World => wy
        have t0 := HR.out.bx.cell (j := 0) rfl
        have t1 := HR.out.bx.cell (j := 1) rfl
        by_cases hlt2 : j2 < ms.length
        ·have hltJ : (j2 : Int) < ms.length := by omega
         obtain ⟨ys, h2⟩ := HR.out.rm
         obtain ⟨g, cp, cur, e, _⟩ := own_row h2 (by omega)
         injection e with e1 e2 e3
         subst e1
         obtain ⟨v0, c0, f0⟩ := row_cell h2 (i := j2) (by omega)
         clear h2 e2 e3
         have HP := keepG (Wr24.putM (j := j2) HR.out (.int .i64 (-3)))
         go_wp2
         go_roundw
         case rel => exact ⟨j2 + 1, by omega, by go_num, HP.out⟩
         case measure => simp [intOf]; omega
        ·have hltJ : ¬ (j2 : Int) < ms.length := by omega
         go_wp2_with (first
          | (go_at_call 17; go_must (refine (lmodule_yes HR.out.ld.lm.lz.reg hokd 3 hst hpg).mono ?_); rintro e8 w8 ⟨qb, qd, rb, rd, rfl, o3, o4, hb8⟩; go_must (obtain ⟨W5, W6, HW5, HW6, ⟨n2, n3⟩, ⟨f2, f3⟩, HP6, HB6⟩ := boxM24 w8 (.slice qb ms.length qd) (.slice rb xs.length rd); have HL8 := keepG ((HR.out.ld.below hb8).below HB6.out); have HO3 := keepG (own_below o3 HB6.out (Nat.le_refl _)); have HO4 := keepG (own_below o4 HB6.out (Nat.le_refl _)); rw [<- HMM.out] at HL8; have y0 := HP6.out.cell (j := 0) rfl; have y1 := HP6.out.cell (j := 1) rfl; have m0 := HL8.out.bx.cell (j := 0) rfl; have m1 := HL8.out.bx.cell (j := 1) rfl; try simp only at m0 m1; clear o3 o4 hb8))
          | (rw [HW5.out])
          | (rw [HW6.out])
          | (go_at_call 26; go_must (refine (rsame_any _ _ _ _ ms xs ms xs _ ⟨Sees.own HO3.out HL8.out.lm.mi.wm, own_seesI HO4.out, HXWF.out⟩ ⟨Sees.own HL8.out.lm.mi.om HL8.out.lm.mi.wm, own_seesI HL8.out.lm.mi.oc, HXWF.out⟩).mono ?_); rintro e9 w9 ⟨rfl, hb9⟩; go_must (rw [sameM_true]; have HL9 := keepG (HL8.out.below hb9); clear hb9)))
         go_ret
         exact ⟨rfl, HL9.out.lm.lz.be⟩
theorem instR_wf {ys : List Int} (hb : ∀ x ∈ ys, 0 <= x /\ x <= 255) {p p' : Nat} {i : In} (h : instR ys p = .ok (i, p')) : i.wf := by
 unfold instR at h
 obtain ⟨op, p1, h1, h⟩ := then_ok h
 obtain ⟨d, p2, h2, h⟩ := then_ok h
 obtain ⟨a, p3, h3, h⟩ := then_ok h
 obtain ⟨b, p4, h4, h⟩ := then_ok h
 obtain ⟨im, p5, h5, h⟩ := then_ok h
 split at h
 ·injection h with h
  injection h with h _
  subst h
  have e1 := numR_in hb h1
  have e2 := numR_in hb h2
  have e3 := numR_in hb h3
  have e4 := numR_in hb h4
  unfold sgnR at h5
  split at h5
  ·cases h5
  ·injection h5 with h5
   injection h5 with h5 _
   have e5 := getL_bd (ys.drop p4) (drop_byte hb p4)
   rw [<- h5]
   refine ⟨WalkArith.wf_i64 (by show _ <= op /\ op <= _; omega), WalkArith.wf_i64 (by show _ <= d /\ d <= _; omega), WalkArith.wf_i64 (by show _ <= a /\ a <= _; omega), WalkArith.wf_i64 (by show _ <= b /\ b <= _; omega), WalkArith.wf_i64 ?_⟩
   show _ <= unfoldI _ /\ unfoldI _ <= _
   unfold unfoldI
   split <;> omega
 ·cases h
theorem codeR_wf {ys : List Int} (hb : ∀ x ∈ ys, 0 <= x /\ x <= 255) : ∀ (k : Nat) (acc : List In) (p : Nat) {is : List In} {p' : Nat}, (∀ i ∈ acc, i.wf) -> codeR ys k acc p = .ok (is, p') -> ∀ i ∈ is, i.wf
 | 0, acc, p, is, p', ha, h => by
  injection h with h
  injection h with h _
  rw [<- h]
  exact ha
 | k + 1, acc, p, is, p', ha, h => by
  unfold codeR at h
  obtain ⟨i, q, hi, h2⟩ := then_ok h
  refine codeR_wf hb k (acc ++ [i]) q (fun x hx => ?_) h2
  rcases List.mem_append.1 hx with g | g
  ·exact ha x g
  ·rw [List.mem_singleton.1 g]; exact instR_wf hb hi
theorem dec_iwf {ys : List Int} (hb : ∀ x ∈ ys, 0 <= x /\ x <= 255) : ∀ i ∈ (decL ys).1.2, i.wf := by
 unfold decL
 cases hd : decR ys with
 | error e => intro i hi; cases hi
 | ok q =>
  obtain ⟨⟨ms, is⟩, p⟩ := q
  unfold decR at hd
  obtain ⟨_, p1, _, h1⟩ := then_ok hd
  obtain ⟨ms', p2, h2, h3⟩ := then_ok h1
  obtain ⟨is', p3, h3', h4⟩ := then_ok h3
  obtain ⟨_, p4, _, h5⟩ := then_ok h4
  injection h5 with h5
  injection h5 with h5 _
  injection h5 with h5 h6
  subst h6
  unfold codeA at h3'
  obtain ⟨n, p5, h6, h7⟩ := then_ok h3'
  split at h7
  ·cases h7
  ·exact codeR_wf hb _ _ _ (fun i hi => by cases hi) h7
theorem registryLoads_walk (m : Int) (v : Value) (bs : List Int) (w : World) {P0 : Prop} (_ : P0) (hs : Sees .u8 w v bs) (hl : bs.length <= 140737488351232) : Calls Tryz.prog 6 #[.int .i64 m, v] w fun e w' => e = .returned (.bool true) /\ Below w.heap.size w w' := by
 by_cases hm : m < 0 ∨ 4 < m
 ·exact loads_no m hm v w
 obtain ⟨n, rfl⟩ : ∃ n : Nat, m = n := ⟨m.toNat, by omega⟩
 have hn4 : n <= 4 := by omega
 have hby := hs.bytes24
 have hin := dec_maps hby
 have hcd := dec_code hby
 have hwf := dec_iwf hby
 obtain ⟨⟨⟨ms, xs⟩, q, e⟩, hd⟩ : ∃ d, decL bs = d := ⟨_, rfl⟩
 rw [hd] at hin hcd hwf
 by_cases he : e = 0
 ·subst he
  obtain ⟨⟨jp, je⟩, hj⟩ : ∃ j, judgeR ms xs = j := ⟨_, rfl⟩
  by_cases hje : je = 0
  ·subst hje
   cases hall : ms.all (fun x => decide (x < (n : Int))) with
   | false => exact loads_maps n hn4 hs hl hd hj hall
   | true => exact loads_ok n hn4 hs hl hd hj hall hwf hcd (nodup_le 4 ms (judge_maps (ms := ms) (xs := xs) (by rw [hj])).1 (fun x hx => by have := hin x hx; omega))
  ·exact loads_jud n hn4 hs hl hd hj hje
 ·exact loads_dec n hn4 hs hl hd he
end Go.Proofs.YtibolefffjkblaaGreat
