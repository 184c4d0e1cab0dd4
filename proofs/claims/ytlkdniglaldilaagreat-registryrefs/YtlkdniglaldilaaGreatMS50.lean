/-
  W24Aw
  W24Nu
  W24Ld
  W24Rf
  W24RfW
-/
import Derived.Test.YtlkdniglaldilaaGreatMS49
import Derived.Test.YtlkdniglaldilaaGreatMS46
import Derived.Test.YtlkdniglaldilaaGreatMS41
import Derived.Test.YtlkdniglaldilaaGreatMS47
import Derived.Test.YtlkdniglaldilaaGreatMS48
import Derived.Lib.SlBytesConst
import Derived.Laws.AppendOwnNone
namespace Go.Proofs.YtlkdniglaldilaaGreat
open Go.RowKit
set_option linter.unusedVariables false
set_option linter.unusedSimpArgs false
set_option maxRecDepth 100000
def bs5 : List Int := [84, 80, 1, 1, 2, 2, 0, 0, 0, 8, 10, 22, 0, 0, 0, 0]
theorem five_dec : (decL bs5).2.2 = 0 /\ (decL bs5).1.1 = [2] := by decide +kernel
theorem five_jud : (judgeR (decL bs5).1.1 (decL bs5).1.2).2 = 0 := by decide +kernel
def rg5 : Rg := ⟨3, Tb.new 2, Ck.new 1, [⟨[2], (decL bs5).1.2, 0, 0⟩], []⟩
theorem five_load : (Rg.new 2 3 1).loadB bs5 = (1, 0, rg5) := by
 have e : errB bs5 = 0 := by unfold errB; rw [if_neg (by rw [five_dec.1]; decide)]; exact five_jud
 unfold Rg.loadB
 rw [e, five_dec.2]
 rfl
theorem five_put : ∃ t', (rg5.tb.put false 0 1) = (1, 0, t') /\ rg5.put false 0 1 = (1, 0, ⟨3, t', Ck.new 1, rg5.ps, []⟩) := ⟨_, rfl, rfl⟩
theorem sees_marked (w : World) (t : TypeId) (xs : List Int) (fr : Nat × Nat) (h : ∀ x ∈ xs, 0 <= x /\ x <= 255) (hl : xs.length <= 1000) : Sees .u8 (w.alloc (.cells (xs.map (Value.int .u8)).toArray t fr)) (.slice (some ⟨w.heap.size, 0, none⟩) xs.length xs.length) xs := by
 refine ⟨_, _, rfl, Nat.le_refl _, by unfold maxLen; omega, (fun e => by cases e), wf_bytes h, fun _ => ⟨w.heap.size, 0, rfl, by simp, fun i hi => ?_⟩⟩
 have e : (w.alloc (.cells (xs.map (Value.int .u8)).toArray t fr)).heap[w.heap.size]? = some (.cells (xs.map (Value.int .u8)).toArray t fr) := by
  show (w.heap.push _)[w.heap.size]? = _
  simp
 have e2 : (xs.map (Value.int .u8)).toArray[i]? = some (.int .u8 (xs.getD i 0)) := by
  simp [List.getD, hi]
 rw [Nat.zero_add]
 unfold World.cell?
 simp only [e, e2]
 rfl
theorem lfive (w : World) : Calls Tryz.prog 18 #[] w fun e w' => ∃ u, e = .returned u /\ Sees .u8 w' u bs5 /\ Below w.heap.size w w' := by
 obtain ⟨Z, hcv, HS, HB⟩ : ∃ Z, (convert 29 29 (.slice (some ⟨w.heap.size, 0, none⟩) 16 16)).run Tryz.prog (w.alloc (.cells #[.int .u8 84, .int .u8 80, .int .u8 1, .int .u8 1, .int .u8 2, .int .u8 2, .int .u8 0, .int .u8 0, .int .u8 0, .int .u8 8, .int .u8 10, .int .u8 22, .int .u8 0, .int .u8 0, .int .u8 0, .int .u8 0] 5)) = .ok (.slice (some ⟨w.heap.size, 0, none⟩) 16 16) Z /\ Hid (Sees .u8 Z (.slice (some ⟨w.heap.size, 0, none⟩) 16 16) bs5) /\ Hid (Below w.heap.size w Z) := ⟨_, Go.Lib.run_convert_bytes_const (P := Tryz.prog) w 29 5 (bs5.map (Value.int .u8)).toArray 16 16 Tryz.underlying29 Tryz.underlying5, sees_marked w 5 bs5 (16, 17) (by decide) (by decide), below_allocG w _⟩
 go_enter Tryz.func18, Tryz.ntmps18
 go_wp2
 go_ret
 exact ⟨_, rfl, HS.out, HB.out⟩
set_option maxHeartbeats 3200000 in
theorem awake24_any (w : World) : Calls Tryz.prog 5 #[] w fun e w' => e = .returned (.bool true) /\ Below w.heap.size w w' := by
 obtain ⟨t', ht, hp⟩ := five_put
 have HLD := keepG five_load
 have HPT := keepG hp
 have HN : Hid ((if inM (⟨3, t', Ck.new 1, rg5.ps, []⟩ : Rg).mp 2 = true then ((⟨3, t', Ck.new 1, rg5.ps, []⟩ : Rg).names 2, (0 : Int)) else (0, 2)) = (1, 0)) := by
  show _ = _
  rfl
 have hok5 : rg5.Ok := by
  have := (Rg.Ok.new (h := 2) (m := 3) (k := 1) (by omega) (by omega) (by omega) (by omega) (by omega)).loadB bs5
  rw [five_load] at this
  exact this
 have hokP : (⟨3, t', Ck.new 1, rg5.ps, []⟩ : Rg).Ok := by
  have := hok5.put false 0 1
  rw [hp] at this
  exact this
 have HBS : Hid (∀ x ∈ bs5, 0 <= x /\ x <= 255) := by
  show ∀ x ∈ bs5, 0 <= x /\ x <= 255
  decide
 have HOK5 := keepG hok5
 have HOKP := keepG hokP
 clear ht hp hok5 hokP
 go_enter Tryz.func5, Tryz.ntmps5
 go_wp2_with (first
  | (go_at_call 6; go_must (refine (lz24_new (w0 := w) 2 3 1 (by omega) (by omega) (by omega) (by omega) (by omega) (Below.refl _ _)).mono ?_); rintro e w1 ⟨b, bt, br, bc, G, rfl, hL⟩; go_must (have HL := keepG hL; clear hL))
  | (go_at_call 18; go_must (refine (lfive _).mono ?_); rintro e w2 ⟨u, rfl, hs, hb⟩; go_must (have HL2 := keepG (HL.out.below hb); have HS := keepG hs; obtain ⟨ua, uc, eu⟩ : ∃ ua uc, u = .slice ua bs5.length uc := (by obtain ⟨a, c, e, _⟩ := hs; exact ⟨a, c, e⟩); subst eu; clear hb hs))
  | (go_at_call 17; go_must (refine (HL2.out.reg.load HL2.out.ok (by simp [Rg.new]) HS.out HBS.out HLD).mono ?_); rintro e w3 ⟨rfl, G3, hl, hn⟩; go_must (have HL3 := keepG (HL2.out.next hl hn HOK5.out); clear hl hn))
  | (go_at_call 13; go_must (refine (HL3.out.reg.attach HL3.out.ok (by decide) 0 1 HPT).mono ?_); rintro e w4 ⟨rfl, G4, hl, hn⟩; go_must (have HL4 := keepG (HL3.out.next hl hn HOKP.out); have c1 := HL4.out.low.2.1; clear hl hn))
  | (go_at_call 12; go_must (refine (HL4.out.reg.count HL4.out.ok 2 HN).mono ?_); rintro e w5 ⟨rfl, hb⟩; go_must (have HL5 := keepG (HL4.out.below hb); clear hb)))
 go_ret
 exact ⟨rfl, HL5.out.be⟩
def z130 : List Value := bC (List.replicate 130 false)
theorem run_makeB130 (w : World) : (Instr.makeSlice 28 (.int .i64 130) (.int .i64 130)).run Tryz.prog w = .ok (.slice (some ⟨w.heap.size, 0, none⟩) 130 130) (w.alloc (.cells z130.toArray 4)) := by
 have hib : (Tryz.prog.info? 4).map (fun i => (i.zero, i.size, i.bytes)) = some (some (.bool false), 1, 1) := by kernel_rfl
 obtain ⟨i, h1, h2, h3, h4⟩ := info_parts hib
 have := run_make (P := Tryz.prog) w 28 4 i _ Tryz.underlying28 h1 h2 .i64 .i64 130 130 (by omega) (Int.le_refl _) (by rw [h4]; omega) (by omega)
 rw [h3] at this
 have e0 : madeCells (Value.bool false).cells (Int.toNat 130 * 1) = z130.toArray := by kernel_rfl
 rw [e0] at this
 exact this
section
variable {w0 wr wr' : World} {b bt br bc rb : Nat} {G G' : Ft} {r r' : Rg}
end
section
variable {w0 wr wr' : World} {b bt br bc : Nat} {G G' H : Ft} {r r' : Rg} {md : Md}
variable {bb : Nat}
theorem lmodule_yes (h : Lr wr b bt br bc G r) (hk : r.Ok) (n : Int) (hs : r.st n <= 1) {ms : List Int} {xs : List In} {s : Nat} {ep : Int} (hp : r.pg n = ⟨ms, xs, s, ep⟩) : Calls Tryz.prog 11 #[.pointer (some ⟨b, 0, none⟩), .int .i64 n] wr fun e w' => ∃ a c a' c', e = .returned (.tuple #[.agg #[.slice a ms.length c, .slice a' xs.length c'], .bool true]) /\ w'.ownsRow wr.heap.size 3 1 (.slice a ms.length c) ms.length (ms.map (Value.int .i64)) /\ w'.ownsRow wr.heap.size 74 5 (.slice a' xs.length c') xs.length (flat xs) /\ Below wr.heap.size wr w' := by
 refine lmodule h hk n (show Hid (_ -> _) from fun _ um uc w' o1 o2 hb => ?_) (show Hid (_ -> _) from fun e => absurd e (by omega))
 rw [hp] at o1 o2
 obtain ⟨a, c, e1⟩ := own_shape o1
 obtain ⟨a', c', e2⟩ := own_shape o2
 simp only at e1 e2
 subst e1 e2
 exact ⟨a, c, a', c', rfl, o1, o2, hb⟩
end
section
variable {w0 wr wr' : World} {b bt br bc bb b15 base : Nat} {G : Ft} {r : Rg} {md : Md}
end
structure Rf (w0 wr : World) (b bt br bc : Nat) (G : Ft) (r : Rg) (rb : Nat) (row : List Bool) : Prop where
 lz : Lz24 w0 wr b bt br bc G r
 row : Hp wr rb 4 (bC row)
 ap : ¬ G rb
 new : w0.heap.size <= rb
section
variable {w0 wr wr' : World} {b bt br bc rb : Nat} {G G' : Ft} {r r' : Rg} {row : List Bool}
theorem Rf.below (h : Rf w0 wr b bt br bc G r rb row) (hb : Below wr.heap.size wr wr') : Rf w0 wr' b bt br bc G r rb row := ⟨h.lz.below hb, h.row.below hb h.row.lt, h.ap, h.new⟩
theorem Rf.next (h : Rf w0 wr b bt br bc G r rb row) (hl : Lz24 w0 wr' b bt br bc G' r') (hn : Nx wr wr' G G') : Rf w0 wr' b bt br bc G' r' rb row := ⟨hl, h.row.chg hn.chg h.ap, fun e => (hn.new rb e).elim h.ap (fun q => by have := h.row.lt; omega), h.new⟩
theorem Rf.at (h : Rf w0 wr b bt br bc G r rb row) (hl : row.length = 130) {n : Nat} (hn : n < 130) : wr.cell? ⟨rb, n, none⟩ = some (.bool (row.getD n false)) := h.row.cell (by simp [bC, List.getD, hl, hn])
theorem Rf.set (h : Rf w0 wr b bt br bc G r rb row) (m : Nat) : Rf w0 (wr.setCell ⟨rb, m, none⟩ (.bool true)) b bt br bc G r rb (row.set m true) := by
 have hp := h.row.set m (.bool true)
 have e2 : (bC row).set m (.bool true) = bC (row.set m true) := by simp [bC, List.map_set]
 rw [e2] at hp
 exact ⟨h.lz.keeps (Chg.set wr rb m _) (fun k e => by rw [e]; exact h.ap) (fun k e => by rw [e]; exact h.new), hp, h.ap, h.new⟩
theorem RoN.other {w : World} {B : Nat} {u : Value} {A : List Int} (h : RoN w B u A) {k m : Nat} (hk : k < B) (v : Value) : RoN (w.setCell ⟨k, m, none⟩ v) B u A := by
 refine own_chg h (Chg.set w k m v) (fun j hj e => ?_)
 have := h.lt j hj
 omega
theorem RoN.cellP {w : World} {B p n cap : Nat} {A : List Int} (h : RoN w B (.slice (some ⟨p, 0, none⟩) n cap) A) {k : Nat} (hk : k < A.length) : w.cell? ⟨p, k, none⟩ = some (.int .i64 (A.getD k 0)) := by
 obtain ⟨q, c, e, _, _, _, _, hcl, _⟩ := h.cells (by omega)
 injection e with e1 _ _
 injection e1 with e1
 injection e1 with e1
 subst e1
 exact (hcl k hk).1
theorem Lr.few24 {w : World} {b bt br bc : Nat} {G : Ft} {r : Rg} (h : Lr w b bt br bc G r) (hk : r.Ok) : r.live.length + r.ln.length <= 16 := by
 obtain ⟨F, gc, P, ul, L, ut, T, M, h1, rfl, h2, h3⟩ := h.ex
 have := (h2.lens hk).1
 rw [<- h2.liv, <- h2.ret, List.length_map, List.length_map]
 exact this
theorem cntQ_one (m : Int) {ms : List Int} (h : ms.Nodup) (d : Nat) : cntQ m ms d <= 1 := by
 have e := cntQ_all m (h.sublist (List.take_sublist d ms))
 unfold cntQ at e ⊢
 rw [List.take_length] at e
 rw [e]
 split <;> omega
theorem append_ron {ops : Array Oper} {rest : List Oper} {o : Oper} {a : Act} {Q : Exit -> Act -> World -> Prop} {w : World} (hgd : o.guard = none) (s x : Operand)
  (ho : o.op = .call { callee := .builtin .append, args := #[s, x], argTypes := #[32, 32] }) (base : Nat) {u1 u2 : Value} {A B : List Int} (hs : a.eval s = u1) (h1 : RoN w base u1 A) (hx : a.eval x = u2) (h2 : RoN w base u2 B)
  (hb : base <= w.heap.size) (hl : A.length + B.length <= 1000) (h : ∀ v' w', RoN w' base v' (A ++ B) -> Below base w w' -> wpList Tryz.prog ops Q rest (a.put o.dst v') w') : wpList Tryz.prog ops Q (o :: rest) a w := by
 obtain ⟨i0, hi0, hz0, hzs, hzb⟩ := info_parts infoIntN
 have hcase : (u2 = .slice none 0 0 /\ B.length = 0) ∨ ∃ g cap, u2 = .slice (some ⟨g, 0, none⟩) B.length cap := by
  obtain ⟨_, g | ⟨g, cap, cur, e, _⟩⟩ := h2
  ·exact .inl g
  ·exact .inr ⟨g, cap, e⟩
 rcases hcase with ⟨e, g⟩ | ⟨g, cap, e⟩
 ·subst e
  have eB : B = [] := List.length_eq_zero_iff.1 g
  subst eB
  refine wpList_append_own_none hgd s x _ ho base 3 i0 1 Tryz.underlying32 hi0 _ A.length (A.map (Value.int .i64)) hs h1 hx ?_
  exact h u1 w (by rw [List.append_nil]; exact h1) (Below.refl _ _)
 ·subst e
  have hne : ∀ (j : Nat) (u : Value), (B.map (Value.int .i64))[j]? = some u -> w.cell? ((⟨g, 0, none⟩ : Addr).add j) = some u := fun j u hj => by
   rw [Addr.add_lit, Nat.zero_add]
   have h3 : w.ownsRow base 3 1 (.slice (some ⟨g, 0, none⟩) B.length cap) B.length (B.map (Value.int .i64)) := h2
   have := h3.cells (g := g) rfl j u hj
   rw [Addr.add_lit, Nat.zero_add] at this
   exact this
  refine wpList_append_own_at _ hgd s x _ ho base 3 i0 _ 1 8 Tryz.underlying32 hi0 hz0 hzs hzb rfl (by decide) _ A.length (A.map (Value.int .i64)) hs h1 ⟨g, 0, none⟩ B.length cap (B.map (Value.int .i64)) hx (by simp) hne (by intro u hu; obtain ⟨x, _, rfl⟩ := List.mem_map.1 hu; rfl) (by unfold maxLen; omega) (by omega) hb ?_
  intro v' w' hown hg _ _
  refine h v' w' ?_ ((Below.refl base w).grown hg hb (fun k hk => (h1.lt k hk).1))
  unfold RoN
  rw [List.length_append, List.map_append]
  exact hown
end
set_option maxHeartbeats 25600000 in
theorem refs_walk (v : Value) (xs : List Ow24) (w : World) (hsc : Scr24 w v xs) : Calls Tryz.prog 3 #[v] w fun e w' => e = .returned (.bool true) /\ Below w.heap.size w w' := by
 have HSC := keepG hsc
 obtain ⟨a, cap, rfl, hlc, hmx⟩ := hsc.sees.shape
 have hmk := run_makeB130
 clear hsc
 go_enter Tryz.func3, Tryz.ntmps3
 go_wp2_with (first
  | (go_at_call 5; go_must (refine (awake24_any _).mono ?_); rintro e wa ⟨rfl, hb⟩; go_must (have HBA := keepG hb; clear hb))
  | (go_at_call 6; go_must (refine (lz24_new (w0 := w) 3 4 2 (by omega) (by omega) (by omega) (by omega) (by omega) HBA.out).mono ?_); rintro e wn ⟨b, bt, br, bc, G0, rfl, hL⟩; go_must (obtain ⟨WR, HWR, HNU⟩ : ∃ WR, Hid (wn.alloc (.cells z130.toArray 4) = WR) /\ Hid (Rf w WR b bt br bc G0 (Rg.new 3 4 2) wn.heap.size (gnB (Rg.new 3 4 2))) := ⟨_, rfl, hL.below (below_allocG _ _), (by rw [gnB_new]; exact Hp.new wn _ _), fun e => (by have := hL.reg.lies _ e; omega), hL.be.size⟩; clear hL))
  | (rw [HWR.out]))
 obtain ⟨rb, HRB⟩ : ∃ rb, Hid (wn.heap.size = rb) := ⟨_, rfl⟩
 rw [HRB.out] at HNU ⊢
 go_loopw [6] (fun i wr => ∃ j : Nat, j <= xs.length /\ j <= 120 /\ ∃ G r, i = .int .i64 j /\ Hid (r.Few j) /\ Hid (r.mp = 4) /\ Hid (Rf w wr b bt br bc G r rb (gnB r))) (fun i _ => xs.length - (intOf i).toNat)
 case atStart => exact ⟨0, by omega, by omega, G0, Rg.new 3 4 2, rfl, Rg.Few.new _ _ _, rfl, HNU.out⟩
 case round =>
  rename World => wr
  obtain ⟨j, hj, hj2, G, r, rfl, HF, HMP, HN⟩ := hrel
  by_cases hlt : j < xs.length /\ j < 120
  ·obtain ⟨hltN, h120⟩ := hlt
   have hltI : (j : Int) < xs.length := by omega
   have h120I : (j : Int) < 120 := by omega
   obtain ⟨o, HOO⟩ : ∃ o, Hid (xs.getD j Ow24.nil = o) := ⟨_, rfl⟩
   obtain ⟨p, off, ea, ⟨d0, d1, d2, d3⟩, hsee, hwx, hln⟩ := HSC.out.at HN.out.lz.be hltN HOO.out
   subst ea
   obtain ⟨ok, ox, op, ou, ows⟩ := o
   simp only at d0 d1 d2 d3 hsee hwx hln
   obtain ⟨ua, uc, eu⟩ : ∃ ua uc, ou = .slice ua ows.length uc := by obtain ⟨a, c, e, _⟩ := hsee; exact ⟨a, c, e⟩
   subst eu
   obtain ⟨W1, W2, HW1, HW2, ⟨n0, n1, n2, n3⟩, ⟨f0, f1, f2, f3⟩, HP2, HB2⟩ := box_op24 wr ok ox op ua ows.length uc
   have HN2 := keepG (HN.out.below HB2.out)
   have HS2 := keepG (hsee.below HB2.out (Nat.le_refl _))
   have b0 := HP2.out.cell (j := 0) rfl
   have b1 := HP2.out.cell (j := 1) rfl
   have b2 := HP2.out.cell (j := 2) rfl
   have b3 := HP2.out.cell (j := 3) rfl
   have hbz := HB2.out.size
   have hbox := HP2.out.lt
   clear hsee
   by_cases k5 : ok = 5
   ·as_aux_lemma =>
     subst k5
     obtain ⟨⟨A, r'⟩, HQS⟩ : ∃ q, Hid (r.settle ox = q) := ⟨_, rfl⟩
     have eA : A = r.goes ox := by have h := HQS.out; unfold Rg.settle at h; injection h with h1 _; exact h1.symm
     have eR : r' = (r.settle ox).2 := by rw [HQS.out]
     have HOK := keepG (HN.out.lz.ok.settle ox)
     rw [<- eR] at HOK
     have HFW : Hid (r'.Few (j + 1)) := by
      have h : (r.settle ox).2.Few (j + 1) := HF.out.play 5 ox op ows
      rw [<- eR] at h
      exact h
     have HMP2 : Hid (r'.mp = 4) := by rw [eR]; exact HMP.out
     have hl120 : r'.ps.length <= 120 := by have := HFW.out.ps; omega
     have hlr : r.ps.length <= 120 := by have := HF.out.ps; omega
     have HJA : Hid (gnJ r A A.length = gnB r') := by rw [eA, eR]; exact gnJ_all HN.out.lz.ok hlr ox
     have HJN : Hid (∀ d, d < A.length -> (gnJ r A d).getD (A.getD d 0).toNat false = false) := by rw [eA]; exact fun d hd => gnJ_new HN.out.lz.ok hlr ox hd
     have HIN : Hid (∀ x ∈ A, 1 <= x /\ x <= 120) := by
      rw [eA]
      intro x hx
      have := goes_in HN.out.lz.ok hx
      omega
     clear eA eR
     go_wp2_with (first
      | (rw [HW1.out])
      | (rw [HW2.out])
      | (go_at_call 7; go_must (refine (HN2.out.lz.reg.settle HN2.out.lz.ok ox HQS).mono ?_); rintro e3 w3 ⟨u3, rfl, ho3, G', hl3, hn3, ha3⟩; go_must (have HN3 := keepG (HN2.out.next (HN2.out.lz.next hl3 hn3 HOK.out) hn3); have HO3 := keepG ho3; obtain ⟨sa, sc, es⟩ := own_shape ho3; subst es; clear hl3 hn3 ha3 ho3)))
     have hrbW : rb < W2.heap.size := HN2.out.row.lt
     go_loopw [9] (fun dd wq => ∃ d : Nat, d <= A.length /\ dd = .int .i64 d /\ Hid (Rf w wq b bt br bc G' r' rb (gnJ r A d)) /\ Hid (RoN wq W2.heap.size (.slice sa A.length sc) A)) (fun dd _ => A.length - (intOf dd).toNat)
     case atStart => exact ⟨0, by omega, rfl, HN3.out, HO3.out⟩
     case round =>
      rename World => wl
      obtain ⟨d, hd, rfl, HNL0, HOL⟩ := hrel
      by_cases hdl : d < A.length
      ·have hdlI : (d : Int) < A.length := by omega
       obtain ⟨pp, cap, ev, _, _, _, _, hcl, _⟩ := HOL.out.cells (by omega)
       injection ev with ev1 _ ev2
       subst ev1 ev2
       have hck2 := (hcl d hdl).1
       clear hcl
       have hx := HIN.out (A.getD d 0) (by simp [List.getD, hdl])
       have hjn := HJN.out d hdl
       obtain ⟨q, hq⟩ : ∃ q : Nat, A.getD d 0 = q := ⟨(A.getD d 0).toNat, by omega⟩
       have HQQ := keepG hq
       rw [hq] at hck2 hx hjn
       rw [show ((q : Int)).toNat = q by omega] at hjn
       have hq1 : ¬ (q : Int) < 1 := by omega
       have hq2 : (q : Int) < 130 := by omega
       have hq3 : q < 130 := by omega
       have hcl := HNL0.out.at (gnJ_len _ _ _) hq3
       rw [hjn] at hcl
       have hfz := HNL0.out.row.frozen q
       obtain ⟨W5, HW5, HN5, HO5⟩ : ∃ W5, Hid (wl.setCell ⟨rb, q, none⟩ (.bool true) = W5) /\ Hid (Rf w W5 b bt br bc G' r' rb (gnJ r A (d + 1))) /\ Hid (RoN W5 W2.heap.size (.slice (some ⟨pp, 0, none⟩) A.length sc) A) := by
        refine ⟨_, rfl, ?_, HOL.out.other hrbW _⟩
        have h := HNL0.out.set q
        have e : gnJ r A (d + 1) = (gnJ r A d).set q true := by show (gnJ r A d).set (A.getD d 0).toNat true = _; rw [HQQ.out]; rfl
        show Rf _ _ _ _ _ _ _ _ _ _
        rw [e]
        exact h
       go_wp2_with (rw [HW5.out])
       go_roundw
       case rel => exact ⟨d + 1, by omega, by go_num, HN5.out, HO5.out⟩
       case measure => simp [intOf]; omega
      ·have hdlI : ¬ (d : Int) < A.length := by omega
       have hde : d = A.length := by omega
       subst hde
       rw [HJA.out] at HNL0
       have HNL := keepG HNL0.out
       have HLA : Hid (r'.live.length + r'.ln.length <= 16) := (show _ <= _ by exact HNL.out.lz.reg.few24 HNL.out.lz.ok)
       go_wp2_with (first
        | (go_at_call 9; go_must (refine (HNL.out.lz.reg.live HNL.out.lz.ok).mono ?_); rintro e4 w4 ⟨u4, rfl, hu4, hb4⟩; go_must (have HU4 := keepG hu4; have HB4 := keepG hb4; have HN4 := keepG (HNL.out.below hb4); clear hu4 hb4))
        | (go_at_call 10; go_must (refine (HN4.out.lz.reg.retiring HN4.out.lz.ok).mono ?_); rintro e5 w5 ⟨u5, rfl, hu5, hb5⟩; go_must (have HU5 := keepG (hu5.low HB4.out.size); have HU45 := keepG (HU4.out.below hb5); have HB5 := keepG (HB4.out.trans (hb5.mono HB4.out.size)); clear hu5 hb5))
        | (at_builtin; go_must (refine append_ron rfl _ _ rfl wl.heap.size rfl HU45.out rfl HU5.out HB5.out.size (by have := HLA.out; omega) ?_); intro v6 w6 hv6 hb6; go_must (have HV6 : Hid (RoN w6 wl.heap.size v6 r'.all) := hv6; have HN6 := keepG (HNL.out.below (HB5.out.trans hb6)); obtain ⟨va, vc, ev⟩ := own_shape HV6.out; subst ev; clear hv6 hb6)))
       have hlv : (r'.live ++ r'.ln).length = r'.all.length := rfl
       have HLA2 : Hid (r'.all.length <= 16) := by have h := HLA.out; show _ <= _; rw [<- hlv, List.length_append]; exact h
       try rw [hlv]
       go_loopw [13] (fun mm wq => ∃ m : Nat, m <= 4 /\ mm = .int .i64 m /\ Hid (Below w6.heap.size w6 wq)) (fun mm _ => 4 - (intOf mm).toNat)
       case atStart => exact ⟨0, by omega, rfl, Below.refl _ _⟩
       case round =>
        rename World => wq
        obtain ⟨m, hm, rfl, HBQ⟩ := hrel
        by_cases hm4 : m < 4
        ·have hm4I : (m : Int) < 4 := by omega
         go_wp2
         go_loopw [14, 15] (fun tt kk wk => ∃ k : Nat, k <= r'.all.length /\ kk = .int .i64 k /\ tt = .int .i64 (cntK r' m k) /\ Hid (Below w6.heap.size w6 wk)) (fun _ kk _ => r'.all.length - (intOf kk).toNat)
         case atStart => exact ⟨0, by omega, rfl, rfl, HBQ.out⟩
         case round =>
          rename World => wk
          obtain ⟨k, hk, rfl, rfl, HBK⟩ := hrel
          have HNK := keepG (HN6.out.below HBK.out)
          have hck : cntK r' m k <= k := by unfold cntK; exact Nat.le_trans (List.length_filter_le _ _) (by simp; omega)
          by_cases hkl : k < r'.all.length
          ·have hklI : (k : Int) < r'.all.length := by omega
           have HVK := keepG (HV6.out.below HBK.out)
           obtain ⟨pp, cap, ev, _, _, _, _, hcl, _⟩ := HVK.out.cells (by omega)
           injection ev with ev1 _ ev2
           subst ev1 ev2
           have hck2 := (hcl k hkl).1
           clear hcl
           have hmem : r'.all.getD k 0 ∈ r'.all := by simp [List.getD, hkl]
           obtain ⟨pn, HPN⟩ : ∃ pn, Hid (r'.all.getD k 0 = pn) := ⟨_, rfl⟩
           rw [HPN.out] at hck2 hmem
           obtain ⟨hp1, hp2⟩ := Rg.all_in HNK.out.lz.ok hmem
           have hst := (Rg.all_mem HNK.out.lz.ok).1 hmem
           obtain ⟨q, rfl⟩ : ∃ q : Nat, pn = q := ⟨pn.toNat, by omega⟩
           have hq130 : q < 130 := by omega
           have hg := HNK.out.at (gnB_len _) hq130
           rw [gnB_at _ hq130, show gnd r' q = false from decide_eq_false (fun g => by have := g.2.2; omega)] at hg
           have hq1 : ¬ (q : Int) < 1 := by omega
           have hq2 : (q : Int) < 130 := by omega
           obtain ⟨⟨ms, ys, ss, ep⟩, hpg⟩ : ∃ q', r'.pg q = q' := ⟨_, rfl⟩
           have hnd : ms.Nodup := by have h := Rg.pg_ms HNK.out.lz.ok hst; rw [hpg] at h; exact h
           have HCK : Hid (cntK r' m (k + 1) = cntK r' m k + cntQ m ms ms.length) := by have h := cntK_more HNK.out.lz.ok (m : Int) hkl; rw [HPN.out, hpg] at h; exact h
           go_wp2_with (first
            | (go_at_call 11; go_must (refine (lmodule_yes HNK.out.lz.reg HNK.out.lz.ok q (by omega) hpg).mono ?_); rintro e7 w7 ⟨qa, qc, ra, rc, rfl, o1, o2, hb7⟩; go_must (obtain ⟨W3, W4, HW3, HW4, ⟨n2, n3⟩, ⟨f2, f3⟩, HP4, HB4⟩ := boxM24 w7 (.slice qa ms.length qc) (.slice ra ys.length rc); have HO4 : Hid (RoN W4 wk.heap.size (.slice qa ms.length qc) ms) := own_below o1 HB4.out (Nat.le_refl _); have HR4 := keepG ((HNK.out.below hb7).below HB4.out); have HB64 := keepG (HBK.out.trans ((hb7.trans (HB4.out.mono hb7.size)).mono HBK.out.size)); have hck2 : W4.cell? ⟨pp, k, none⟩ = some (.int .i64 (q : Int)) := (by have h := (HVK.out.below (hb7.trans (HB4.out.mono hb7.size))).cellP hkl; rw [HPN.out] at h; exact h); have hg := HR4.out.at (gnB_len _) hq130; rw [gnB_at _ hq130, show gnd r' q = false from decide_eq_false (fun g => by have := g.2.2; omega)] at hg; clear hb7 o1 o2))
            | (rw [HW3.out])
            | (rw [HW4.out]))
           go_loopw [14, 18] (fun tt jj wj => ∃ d : Nat, d <= ms.length /\ jj = .int .i64 d /\ tt = .int .i64 ((cntK r' m k + cntQ m ms d : Nat) : Int) /\ Hid (Below W4.heap.size W4 wj)) (fun _ jj _ => ms.length - (intOf jj).toNat)
           case atStart => exact ⟨0, by omega, rfl, rfl, Below.refl _ _⟩
           case round =>
            rename World => wj
            obtain ⟨d, hd, rfl, rfl, HBJ⟩ := hrel
            have y0 := (HP4.out.below HBJ.out HP4.out.lt).cell (j := 0) rfl
            have hcq := cntQ_one (m : Int) hnd d
            have hb16 : k <= 16 := by have := HLA2.out; omega
            by_cases hdl : d < ms.length
            ·have hdlI : (d : Int) < ms.length := by omega
             obtain ⟨pq, cap2, ev, _, _, hcc1, hcc2, hcl, _⟩ := (HO4.out.below HBJ.out).cells (by omega)
             injection ev with ev1 _ ev2
             subst ev1 ev2
             have hcd := (hcl d hdl).1
             clear hcl
             have HCQ := keepG (cntQ_more (m : Int) ms hdl)
             obtain ⟨y, HY⟩ : ∃ y, Hid (ms.getD d 0 = y) := ⟨_, rfl⟩
             rw [HY.out] at hcd HCQ
             by_cases heq : y = m
             ·have heqb : (y == (m : Int)) = true := by simpa using heq
              go_wp2
              go_roundw
              case rel => exact ⟨d + 1, by omega, by go_num, by rw [HCQ.out, if_pos heq]; go_num, HBJ.out⟩
              case measure => simp [intOf]; omega
             ·have heqb : (y == (m : Int)) = false := by simpa using heq
              go_wp2
              go_roundw
              case rel => exact ⟨d + 1, by omega, by go_num, by rw [HCQ.out, if_neg heq], HBJ.out⟩
              case measure => simp [intOf]; omega
            ·have hdlI : ¬ (d : Int) < ms.length := by omega
             have hde : d = ms.length := by omega
             subst hde
             go_wp2
             go_roundw
             case rel => exact ⟨k + 1, by omega, by go_num, by rw [HCK.out], HB64.out.trans (HBJ.out.mono HB64.out.size)⟩
             case measure => simp [intOf]; omega
          ·have hklI : ¬ (k : Int) < r'.all.length := by omega
           have hke : k = r'.all.length := by omega
           subst hke
           obtain ⟨-, lo1, -⟩ := HNK.out.lz.low
           have HCN : Hid ((if inM r'.mp m = true then (r'.names m, (0 : Int)) else (0, 2)) = (((cntK r' m r'.all.length : Nat) : Int), (0 : Int))) := by
            show _ = _
            rw [if_pos (by unfold inM; rw [HMP2.out]; simp; omega), cntK_all]
           have hneb : (((cntK r' m r'.all.length : Nat) : Int) != ((cntK r' m r'.all.length : Nat) : Int)) = false := by simp
           go_wp2_with (go_at_call 12; go_must (refine (HNK.out.lz.reg.count HNK.out.lz.ok m HCN).mono ?_); rintro e9 w9 ⟨rfl, hb9⟩; go_must (have HB9 := keepG (HBK.out.trans (hb9.mono HBK.out.size)); clear hb9))
           go_roundw
           case rel => exact ⟨m + 1, by omega, by go_num, HB9.out⟩
           case measure => simp [intOf]; omega
        ·have hm4I : ¬ (m : Int) < 4 := by omega
         have HNQ := keepG (HN6.out.below HBQ.out)
         go_wp2
         go_roundw
         case rel => exact ⟨j + 1, by omega, by omega, G', r', by go_num, HFW.out, HMP2.out, HNQ.out⟩
         case measure => simp [intOf]; omega
   ·obtain ⟨⟨n, E, r'⟩, HQ⟩ : ∃ q, Hid (r.play ok ox op ows = q) := ⟨_, rfl⟩
    have HFW := keepG (play_few HF.out HQ.out)
    have HMP2 : Hid (r'.mp = 4) := by show r'.mp = 4; have h := Rg.play_mp r ok ox op ows; rw [HQ.out] at h; rw [<- HMP.out]; exact h
    have HGN := keepG (play_gn HN2.out.lz.ok HQ.out k5)
    have HPL := keepG (play24 HN2.out.lz HF.out (by omega) ok ox op HS2.out hln hwx HQ)
    have HAFT : Hid (∀ G' w3, Lz24 w w3 b bt br bc G' r' -> Nx W2 w3 G G' -> Rf w w3 b bt br bc G' r' rb (gnB r') /\ Hp w3 wr.heap.size 31 [.int .i64 ok, .int .i64 ox, .int .i64 op, .slice ua ows.length uc]) := by
     intro G' w3 hl hn
     exact ⟨by rw [HGN.out]; exact HN2.out.next hl hn, HP2.out.chg hn.chg (fun e => by have := HN.out.lz.reg.lies _ e; omega)⟩
    have q5 : (ok == 5) = false := by simpa using k5
    have hl120 : r'.ps.length <= 120 := by have := HFW.out.ps; omega
    by_cases k0 : ok = 0
    ·by_cases hE : E = 0
     ·as_aux_lemma =>
       subst k0 hE
       obtain ⟨en, e1, e2, e3⟩ := play_load HQ.out
       subst en
       obtain ⟨q, hq⟩ : ∃ q : Nat, (r.ps.length : Int) + 1 = q := ⟨r.ps.length + 1, rfl⟩
       have hq130 : q < 130 := by omega
       have hq1 : ¬ (q : Int) < 1 := by omega
       have hq2 : (q : Int) < 130 := by omega
       have HGQ : Hid (gnd r' q = false) := by
        show gnd r' q = false
        rw [show gnd r' q = gnd r q by have h := HGN.out; have a1 := gnB_at r' hq130; have a2 := gnB_at r hq130; rw [<- a1, <- a2, h]]
        exact decide_eq_false (fun g => by have := g.2.1; omega)
       rw [hq] at HPL
       clear e1 e2 e3
       go_wp2_with (first
        | (rw [HW1.out])
        | (rw [HW2.out])
        | (go_at_call 8; go_must (refine HPL.out.mono ?_); rintro e3 w3 ⟨rfl, G', hl3, hn3⟩; go_must (obtain ⟨r3, p3⟩ := HAFT.out G' w3 hl3 hn3; have HNL := keepG r3; have HLA : Hid (r'.live.length + r'.ln.length <= 16) := (show _ <= _ by have h := r3.lz.reg.few24 r3.lz.ok; exact h); have dd := r3.at (gnB_len _) hq130; rw [gnB_at _ hq130, HGQ.out] at dd; clear b0 b1 b2 b3; have b0 := p3.cell (j := 0) rfl; clear hl3 hn3 r3 p3))
        | (go_at_call 9; go_must (refine (HNL.out.lz.reg.live HNL.out.lz.ok).mono ?_); rintro e4 w4 ⟨u4, rfl, hu4, hb4⟩; go_must (have HU4 := keepG hu4; have HB4 := keepG hb4; have HN4 := keepG (HNL.out.below hb4); clear hu4 hb4))
        | (go_at_call 10; go_must (refine (HN4.out.lz.reg.retiring HN4.out.lz.ok).mono ?_); rintro e5 w5 ⟨u5, rfl, hu5, hb5⟩; go_must (have HU5 := keepG (hu5.low HB4.out.size); have HU45 := keepG (HU4.out.below hb5); have HB5 := keepG (HB4.out.trans (hb5.mono HB4.out.size)); clear hu5 hb5))
        | (at_builtin; go_must (refine append_ron rfl _ _ rfl w3.heap.size rfl HU45.out rfl HU5.out HB5.out.size (by have := HLA.out; omega) ?_); intro v6 w6 hv6 hb6; go_must (have HV6 : Hid (RoN w6 w3.heap.size v6 r'.all) := hv6; have HN6 := keepG (HNL.out.below (HB5.out.trans hb6)); obtain ⟨va, vc, ev⟩ := own_shape HV6.out; subst ev; clear hv6 hb6)))
       have hlv : (r'.live ++ r'.ln).length = r'.all.length := rfl
       have HLA2 : Hid (r'.all.length <= 16) := by have h := HLA.out; show _ <= _; rw [<- hlv, List.length_append]; exact h
       try rw [hlv]
       go_loopw [13] (fun mm wq => ∃ m : Nat, m <= 4 /\ mm = .int .i64 m /\ Hid (Below w6.heap.size w6 wq)) (fun mm _ => 4 - (intOf mm).toNat)
       case atStart => exact ⟨0, by omega, rfl, Below.refl _ _⟩
       case round =>
        rename World => wq
        obtain ⟨m, hm, rfl, HBQ⟩ := hrel
        by_cases hm4 : m < 4
        ·have hm4I : (m : Int) < 4 := by omega
         go_wp2
         go_loopw [14, 15] (fun tt kk wk => ∃ k : Nat, k <= r'.all.length /\ kk = .int .i64 k /\ tt = .int .i64 (cntK r' m k) /\ Hid (Below w6.heap.size w6 wk)) (fun _ kk _ => r'.all.length - (intOf kk).toNat)
         case atStart => exact ⟨0, by omega, rfl, rfl, HBQ.out⟩
         case round =>
          rename World => wk
          obtain ⟨k, hk, rfl, rfl, HBK⟩ := hrel
          have HNK := keepG (HN6.out.below HBK.out)
          have hck : cntK r' m k <= k := by unfold cntK; exact Nat.le_trans (List.length_filter_le _ _) (by simp; omega)
          by_cases hkl : k < r'.all.length
          ·have hklI : (k : Int) < r'.all.length := by omega
           have HVK := keepG (HV6.out.below HBK.out)
           obtain ⟨pp, cap, ev, _, _, _, _, hcl, _⟩ := HVK.out.cells (by omega)
           injection ev with ev1 _ ev2
           subst ev1 ev2
           have hck2 := (hcl k hkl).1
           clear hcl
           have hmem : r'.all.getD k 0 ∈ r'.all := by simp [List.getD, hkl]
           obtain ⟨pn, HPN⟩ : ∃ pn, Hid (r'.all.getD k 0 = pn) := ⟨_, rfl⟩
           rw [HPN.out] at hck2 hmem
           obtain ⟨hp1, hp2⟩ := Rg.all_in HNK.out.lz.ok hmem
           have hst := (Rg.all_mem HNK.out.lz.ok).1 hmem
           obtain ⟨q, rfl⟩ : ∃ q : Nat, pn = q := ⟨pn.toNat, by omega⟩
           have hq130 : q < 130 := by omega
           have hg := HNK.out.at (gnB_len _) hq130
           rw [gnB_at _ hq130, show gnd r' q = false from decide_eq_false (fun g => by have := g.2.2; omega)] at hg
           have hq1 : ¬ (q : Int) < 1 := by omega
           have hq2 : (q : Int) < 130 := by omega
           obtain ⟨⟨ms, ys, ss, ep⟩, hpg⟩ : ∃ q', r'.pg q = q' := ⟨_, rfl⟩
           have hnd : ms.Nodup := by have h := Rg.pg_ms HNK.out.lz.ok hst; rw [hpg] at h; exact h
           have HCK : Hid (cntK r' m (k + 1) = cntK r' m k + cntQ m ms ms.length) := by have h := cntK_more HNK.out.lz.ok (m : Int) hkl; rw [HPN.out, hpg] at h; exact h
           go_wp2_with (first
            | (go_at_call 11; go_must (refine (lmodule_yes HNK.out.lz.reg HNK.out.lz.ok q (by omega) hpg).mono ?_); rintro e7 w7 ⟨qa, qc, ra, rc, rfl, o1, o2, hb7⟩; go_must (obtain ⟨W3, W4, HW3, HW4, ⟨n2, n3⟩, ⟨f2, f3⟩, HP4, HB4⟩ := boxM24 w7 (.slice qa ms.length qc) (.slice ra ys.length rc); have HO4 : Hid (RoN W4 wk.heap.size (.slice qa ms.length qc) ms) := own_below o1 HB4.out (Nat.le_refl _); have HR4 := keepG ((HNK.out.below hb7).below HB4.out); have HB64 := keepG (HBK.out.trans ((hb7.trans (HB4.out.mono hb7.size)).mono HBK.out.size)); have hck2 : W4.cell? ⟨pp, k, none⟩ = some (.int .i64 (q : Int)) := (by have h := (HVK.out.below (hb7.trans (HB4.out.mono hb7.size))).cellP hkl; rw [HPN.out] at h; exact h); have hg := HR4.out.at (gnB_len _) hq130; rw [gnB_at _ hq130, show gnd r' q = false from decide_eq_false (fun g => by have := g.2.2; omega)] at hg; clear hb7 o1 o2))
            | (rw [HW3.out])
            | (rw [HW4.out]))
           go_loopw [14, 18] (fun tt jj wj => ∃ d : Nat, d <= ms.length /\ jj = .int .i64 d /\ tt = .int .i64 ((cntK r' m k + cntQ m ms d : Nat) : Int) /\ Hid (Below W4.heap.size W4 wj)) (fun _ jj _ => ms.length - (intOf jj).toNat)
           case atStart => exact ⟨0, by omega, rfl, rfl, Below.refl _ _⟩
           case round =>
            rename World => wj
            obtain ⟨d, hd, rfl, rfl, HBJ⟩ := hrel
            have y0 := (HP4.out.below HBJ.out HP4.out.lt).cell (j := 0) rfl
            have hcq := cntQ_one (m : Int) hnd d
            have hb16 : k <= 16 := by have := HLA2.out; omega
            by_cases hdl : d < ms.length
            ·have hdlI : (d : Int) < ms.length := by omega
             obtain ⟨pq, cap2, ev, _, _, hcc1, hcc2, hcl, _⟩ := (HO4.out.below HBJ.out).cells (by omega)
             injection ev with ev1 _ ev2
             subst ev1 ev2
             have hcd := (hcl d hdl).1
             clear hcl
             have HCQ := keepG (cntQ_more (m : Int) ms hdl)
             obtain ⟨y, HY⟩ : ∃ y, Hid (ms.getD d 0 = y) := ⟨_, rfl⟩
             rw [HY.out] at hcd HCQ
             by_cases heq : y = m
             ·have heqb : (y == (m : Int)) = true := by simpa using heq
              go_wp2
              go_roundw
              case rel => exact ⟨d + 1, by omega, by go_num, by rw [HCQ.out, if_pos heq]; go_num, HBJ.out⟩
              case measure => simp [intOf]; omega
             ·have heqb : (y == (m : Int)) = false := by simpa using heq
              go_wp2
              go_roundw
              case rel => exact ⟨d + 1, by omega, by go_num, by rw [HCQ.out, if_neg heq], HBJ.out⟩
              case measure => simp [intOf]; omega
            ·have hdlI : ¬ (d : Int) < ms.length := by omega
             have hde : d = ms.length := by omega
             subst hde
             go_wp2
             go_roundw
             case rel => exact ⟨k + 1, by omega, by go_num, by rw [HCK.out], HB64.out.trans (HBJ.out.mono HB64.out.size)⟩
             case measure => simp [intOf]; omega
          ·have hklI : ¬ (k : Int) < r'.all.length := by omega
           have hke : k = r'.all.length := by omega
           subst hke
           obtain ⟨-, lo1, -⟩ := HNK.out.lz.low
           have HCN : Hid ((if inM r'.mp m = true then (r'.names m, (0 : Int)) else (0, 2)) = (((cntK r' m r'.all.length : Nat) : Int), (0 : Int))) := by
            show _ = _
            rw [if_pos (by unfold inM; rw [HMP2.out]; simp; omega), cntK_all]
           have hneb : (((cntK r' m r'.all.length : Nat) : Int) != ((cntK r' m r'.all.length : Nat) : Int)) = false := by simp
           go_wp2_with (go_at_call 12; go_must (refine (HNK.out.lz.reg.count HNK.out.lz.ok m HCN).mono ?_); rintro e9 w9 ⟨rfl, hb9⟩; go_must (have HB9 := keepG (HBK.out.trans (hb9.mono HBK.out.size)); clear hb9))
           go_roundw
           case rel => exact ⟨m + 1, by omega, by go_num, HB9.out⟩
           case measure => simp [intOf]; omega
        ·have hm4I : ¬ (m : Int) < 4 := by omega
         have HNQ := keepG (HN6.out.below HBQ.out)
         go_wp2
         go_roundw
         case rel => exact ⟨j + 1, by omega, by omega, G', r', by go_num, HFW.out, HMP2.out, HNQ.out⟩
         case measure => simp [intOf]; omega
     ·as_aux_lemma =>
       subst k0
       have hEb : (E == 0) = false := by simpa using hE
       go_wp2_with (first
        | (rw [HW1.out])
        | (rw [HW2.out])
        | (go_at_call 8; go_must (refine HPL.out.mono ?_); rintro e3 w3 ⟨rfl, G', hl3, hn3⟩; go_must (obtain ⟨r3, p3⟩ := HAFT.out G' w3 hl3 hn3; have HNL := keepG r3; have HLA : Hid (r'.live.length + r'.ln.length <= 16) := (show _ <= _ by have h := r3.lz.reg.few24 r3.lz.ok; exact h); clear b0 b1 b2 b3; have b0 := p3.cell (j := 0) rfl; clear hl3 hn3 r3 p3))
        | (go_at_call 9; go_must (refine (HNL.out.lz.reg.live HNL.out.lz.ok).mono ?_); rintro e4 w4 ⟨u4, rfl, hu4, hb4⟩; go_must (have HU4 := keepG hu4; have HB4 := keepG hb4; have HN4 := keepG (HNL.out.below hb4); clear hu4 hb4))
        | (go_at_call 10; go_must (refine (HN4.out.lz.reg.retiring HN4.out.lz.ok).mono ?_); rintro e5 w5 ⟨u5, rfl, hu5, hb5⟩; go_must (have HU5 := keepG (hu5.low HB4.out.size); have HU45 := keepG (HU4.out.below hb5); have HB5 := keepG (HB4.out.trans (hb5.mono HB4.out.size)); clear hu5 hb5))
        | (at_builtin; go_must (refine append_ron rfl _ _ rfl w3.heap.size rfl HU45.out rfl HU5.out HB5.out.size (by have := HLA.out; omega) ?_); intro v6 w6 hv6 hb6; go_must (have HV6 : Hid (RoN w6 w3.heap.size v6 r'.all) := hv6; have HN6 := keepG (HNL.out.below (HB5.out.trans hb6)); obtain ⟨va, vc, ev⟩ := own_shape HV6.out; subst ev; clear hv6 hb6)))
       have hlv : (r'.live ++ r'.ln).length = r'.all.length := rfl
       have HLA2 : Hid (r'.all.length <= 16) := by have h := HLA.out; show _ <= _; rw [<- hlv, List.length_append]; exact h
       try rw [hlv]
       go_loopw [13] (fun mm wq => ∃ m : Nat, m <= 4 /\ mm = .int .i64 m /\ Hid (Below w6.heap.size w6 wq)) (fun mm _ => 4 - (intOf mm).toNat)
       case atStart => exact ⟨0, by omega, rfl, Below.refl _ _⟩
       case round =>
        rename World => wq
        obtain ⟨m, hm, rfl, HBQ⟩ := hrel
        by_cases hm4 : m < 4
        ·have hm4I : (m : Int) < 4 := by omega
         go_wp2
         go_loopw [14, 15] (fun tt kk wk => ∃ k : Nat, k <= r'.all.length /\ kk = .int .i64 k /\ tt = .int .i64 (cntK r' m k) /\ Hid (Below w6.heap.size w6 wk)) (fun _ kk _ => r'.all.length - (intOf kk).toNat)
         case atStart => exact ⟨0, by omega, rfl, rfl, HBQ.out⟩
         case round =>
          rename World => wk
          obtain ⟨k, hk, rfl, rfl, HBK⟩ := hrel
          have HNK := keepG (HN6.out.below HBK.out)
          have hck : cntK r' m k <= k := by unfold cntK; exact Nat.le_trans (List.length_filter_le _ _) (by simp; omega)
          by_cases hkl : k < r'.all.length
          ·have hklI : (k : Int) < r'.all.length := by omega
           have HVK := keepG (HV6.out.below HBK.out)
           obtain ⟨pp, cap, ev, _, _, _, _, hcl, _⟩ := HVK.out.cells (by omega)
           injection ev with ev1 _ ev2
           subst ev1 ev2
           have hck2 := (hcl k hkl).1
           clear hcl
           have hmem : r'.all.getD k 0 ∈ r'.all := by simp [List.getD, hkl]
           obtain ⟨pn, HPN⟩ : ∃ pn, Hid (r'.all.getD k 0 = pn) := ⟨_, rfl⟩
           rw [HPN.out] at hck2 hmem
           obtain ⟨hp1, hp2⟩ := Rg.all_in HNK.out.lz.ok hmem
           have hst := (Rg.all_mem HNK.out.lz.ok).1 hmem
           obtain ⟨q, rfl⟩ : ∃ q : Nat, pn = q := ⟨pn.toNat, by omega⟩
           have hq130 : q < 130 := by omega
           have hg := HNK.out.at (gnB_len _) hq130
           rw [gnB_at _ hq130, show gnd r' q = false from decide_eq_false (fun g => by have := g.2.2; omega)] at hg
           have hq1 : ¬ (q : Int) < 1 := by omega
           have hq2 : (q : Int) < 130 := by omega
           obtain ⟨⟨ms, ys, ss, ep⟩, hpg⟩ : ∃ q', r'.pg q = q' := ⟨_, rfl⟩
           have hnd : ms.Nodup := by have h := Rg.pg_ms HNK.out.lz.ok hst; rw [hpg] at h; exact h
           have HCK : Hid (cntK r' m (k + 1) = cntK r' m k + cntQ m ms ms.length) := by have h := cntK_more HNK.out.lz.ok (m : Int) hkl; rw [HPN.out, hpg] at h; exact h
           go_wp2_with (first
            | (go_at_call 11; go_must (refine (lmodule_yes HNK.out.lz.reg HNK.out.lz.ok q (by omega) hpg).mono ?_); rintro e7 w7 ⟨qa, qc, ra, rc, rfl, o1, o2, hb7⟩; go_must (obtain ⟨W3, W4, HW3, HW4, ⟨n2, n3⟩, ⟨f2, f3⟩, HP4, HB4⟩ := boxM24 w7 (.slice qa ms.length qc) (.slice ra ys.length rc); have HO4 : Hid (RoN W4 wk.heap.size (.slice qa ms.length qc) ms) := own_below o1 HB4.out (Nat.le_refl _); have HR4 := keepG ((HNK.out.below hb7).below HB4.out); have HB64 := keepG (HBK.out.trans ((hb7.trans (HB4.out.mono hb7.size)).mono HBK.out.size)); have hck2 : W4.cell? ⟨pp, k, none⟩ = some (.int .i64 (q : Int)) := (by have h := (HVK.out.below (hb7.trans (HB4.out.mono hb7.size))).cellP hkl; rw [HPN.out] at h; exact h); have hg := HR4.out.at (gnB_len _) hq130; rw [gnB_at _ hq130, show gnd r' q = false from decide_eq_false (fun g => by have := g.2.2; omega)] at hg; clear hb7 o1 o2))
            | (rw [HW3.out])
            | (rw [HW4.out]))
           go_loopw [14, 18] (fun tt jj wj => ∃ d : Nat, d <= ms.length /\ jj = .int .i64 d /\ tt = .int .i64 ((cntK r' m k + cntQ m ms d : Nat) : Int) /\ Hid (Below W4.heap.size W4 wj)) (fun _ jj _ => ms.length - (intOf jj).toNat)
           case atStart => exact ⟨0, by omega, rfl, rfl, Below.refl _ _⟩
           case round =>
            rename World => wj
            obtain ⟨d, hd, rfl, rfl, HBJ⟩ := hrel
            have y0 := (HP4.out.below HBJ.out HP4.out.lt).cell (j := 0) rfl
            have hcq := cntQ_one (m : Int) hnd d
            have hb16 : k <= 16 := by have := HLA2.out; omega
            by_cases hdl : d < ms.length
            ·have hdlI : (d : Int) < ms.length := by omega
             obtain ⟨pq, cap2, ev, _, _, hcc1, hcc2, hcl, _⟩ := (HO4.out.below HBJ.out).cells (by omega)
             injection ev with ev1 _ ev2
             subst ev1 ev2
             have hcd := (hcl d hdl).1
             clear hcl
             have HCQ := keepG (cntQ_more (m : Int) ms hdl)
             obtain ⟨y, HY⟩ : ∃ y, Hid (ms.getD d 0 = y) := ⟨_, rfl⟩
             rw [HY.out] at hcd HCQ
             by_cases heq : y = m
             ·have heqb : (y == (m : Int)) = true := by simpa using heq
              go_wp2
              go_roundw
              case rel => exact ⟨d + 1, by omega, by go_num, by rw [HCQ.out, if_pos heq]; go_num, HBJ.out⟩
              case measure => simp [intOf]; omega
             ·have heqb : (y == (m : Int)) = false := by simpa using heq
              go_wp2
              go_roundw
              case rel => exact ⟨d + 1, by omega, by go_num, by rw [HCQ.out, if_neg heq], HBJ.out⟩
              case measure => simp [intOf]; omega
            ·have hdlI : ¬ (d : Int) < ms.length := by omega
             have hde : d = ms.length := by omega
             subst hde
             go_wp2
             go_roundw
             case rel => exact ⟨k + 1, by omega, by go_num, by rw [HCK.out], HB64.out.trans (HBJ.out.mono HB64.out.size)⟩
             case measure => simp [intOf]; omega
          ·have hklI : ¬ (k : Int) < r'.all.length := by omega
           have hke : k = r'.all.length := by omega
           subst hke
           obtain ⟨-, lo1, -⟩ := HNK.out.lz.low
           have HCN : Hid ((if inM r'.mp m = true then (r'.names m, (0 : Int)) else (0, 2)) = (((cntK r' m r'.all.length : Nat) : Int), (0 : Int))) := by
            show _ = _
            rw [if_pos (by unfold inM; rw [HMP2.out]; simp; omega), cntK_all]
           have hneb : (((cntK r' m r'.all.length : Nat) : Int) != ((cntK r' m r'.all.length : Nat) : Int)) = false := by simp
           go_wp2_with (go_at_call 12; go_must (refine (HNK.out.lz.reg.count HNK.out.lz.ok m HCN).mono ?_); rintro e9 w9 ⟨rfl, hb9⟩; go_must (have HB9 := keepG (HBK.out.trans (hb9.mono HBK.out.size)); clear hb9))
           go_roundw
           case rel => exact ⟨m + 1, by omega, by go_num, HB9.out⟩
           case measure => simp [intOf]; omega
        ·have hm4I : ¬ (m : Int) < 4 := by omega
         have HNQ := keepG (HN6.out.below HBQ.out)
         go_wp2
         go_roundw
         case rel => exact ⟨j + 1, by omega, by omega, G', r', by go_num, HFW.out, HMP2.out, HNQ.out⟩
         case measure => simp [intOf]; omega
    ·as_aux_lemma =>
      have q0 : (ok == 0) = false := by simpa using k0
      go_wp2_with (first
       | (rw [HW1.out])
       | (rw [HW2.out])
       | (go_at_call 8; go_must (refine HPL.out.mono ?_); rintro e3 w3 ⟨rfl, G', hl3, hn3⟩; go_must (obtain ⟨r3, p3⟩ := HAFT.out G' w3 hl3 hn3; have HNL := keepG r3; have HLA : Hid (r'.live.length + r'.ln.length <= 16) := (show _ <= _ by have h := r3.lz.reg.few24 r3.lz.ok; exact h); clear b0 b1 b2 b3; have b0 := p3.cell (j := 0) rfl; clear hl3 hn3 r3 p3))
       | (go_at_call 9; go_must (refine (HNL.out.lz.reg.live HNL.out.lz.ok).mono ?_); rintro e4 w4 ⟨u4, rfl, hu4, hb4⟩; go_must (have HU4 := keepG hu4; have HB4 := keepG hb4; have HN4 := keepG (HNL.out.below hb4); clear hu4 hb4))
       | (go_at_call 10; go_must (refine (HN4.out.lz.reg.retiring HN4.out.lz.ok).mono ?_); rintro e5 w5 ⟨u5, rfl, hu5, hb5⟩; go_must (have HU5 := keepG (hu5.low HB4.out.size); have HU45 := keepG (HU4.out.below hb5); have HB5 := keepG (HB4.out.trans (hb5.mono HB4.out.size)); clear hu5 hb5))
       | (at_builtin; go_must (refine append_ron rfl _ _ rfl w3.heap.size rfl HU45.out rfl HU5.out HB5.out.size (by have := HLA.out; omega) ?_); intro v6 w6 hv6 hb6; go_must (have HV6 : Hid (RoN w6 w3.heap.size v6 r'.all) := hv6; have HN6 := keepG (HNL.out.below (HB5.out.trans hb6)); obtain ⟨va, vc, ev⟩ := own_shape HV6.out; subst ev; clear hv6 hb6)))
      have hlv : (r'.live ++ r'.ln).length = r'.all.length := rfl
      have HLA2 : Hid (r'.all.length <= 16) := by have h := HLA.out; show _ <= _; rw [<- hlv, List.length_append]; exact h
      try rw [hlv]
      go_loopw [13] (fun mm wq => ∃ m : Nat, m <= 4 /\ mm = .int .i64 m /\ Hid (Below w6.heap.size w6 wq)) (fun mm _ => 4 - (intOf mm).toNat)
      case atStart => exact ⟨0, by omega, rfl, Below.refl _ _⟩
      case round =>
       rename World => wq
       obtain ⟨m, hm, rfl, HBQ⟩ := hrel
       by_cases hm4 : m < 4
       ·have hm4I : (m : Int) < 4 := by omega
        go_wp2
        go_loopw [14, 15] (fun tt kk wk => ∃ k : Nat, k <= r'.all.length /\ kk = .int .i64 k /\ tt = .int .i64 (cntK r' m k) /\ Hid (Below w6.heap.size w6 wk)) (fun _ kk _ => r'.all.length - (intOf kk).toNat)
        case atStart => exact ⟨0, by omega, rfl, rfl, HBQ.out⟩
        case round =>
         rename World => wk
         obtain ⟨k, hk, rfl, rfl, HBK⟩ := hrel
         have HNK := keepG (HN6.out.below HBK.out)
         have hck : cntK r' m k <= k := by unfold cntK; exact Nat.le_trans (List.length_filter_le _ _) (by simp; omega)
         by_cases hkl : k < r'.all.length
         ·have hklI : (k : Int) < r'.all.length := by omega
          have HVK := keepG (HV6.out.below HBK.out)
          obtain ⟨pp, cap, ev, _, _, _, _, hcl, _⟩ := HVK.out.cells (by omega)
          injection ev with ev1 _ ev2
          subst ev1 ev2
          have hck2 := (hcl k hkl).1
          clear hcl
          have hmem : r'.all.getD k 0 ∈ r'.all := by simp [List.getD, hkl]
          obtain ⟨pn, HPN⟩ : ∃ pn, Hid (r'.all.getD k 0 = pn) := ⟨_, rfl⟩
          rw [HPN.out] at hck2 hmem
          obtain ⟨hp1, hp2⟩ := Rg.all_in HNK.out.lz.ok hmem
          have hst := (Rg.all_mem HNK.out.lz.ok).1 hmem
          obtain ⟨q, rfl⟩ : ∃ q : Nat, pn = q := ⟨pn.toNat, by omega⟩
          have hq130 : q < 130 := by omega
          have hg := HNK.out.at (gnB_len _) hq130
          rw [gnB_at _ hq130, show gnd r' q = false from decide_eq_false (fun g => by have := g.2.2; omega)] at hg
          have hq1 : ¬ (q : Int) < 1 := by omega
          have hq2 : (q : Int) < 130 := by omega
          obtain ⟨⟨ms, ys, ss, ep⟩, hpg⟩ : ∃ q', r'.pg q = q' := ⟨_, rfl⟩
          have hnd : ms.Nodup := by have h := Rg.pg_ms HNK.out.lz.ok hst; rw [hpg] at h; exact h
          have HCK : Hid (cntK r' m (k + 1) = cntK r' m k + cntQ m ms ms.length) := by have h := cntK_more HNK.out.lz.ok (m : Int) hkl; rw [HPN.out, hpg] at h; exact h
          go_wp2_with (first
           | (go_at_call 11; go_must (refine (lmodule_yes HNK.out.lz.reg HNK.out.lz.ok q (by omega) hpg).mono ?_); rintro e7 w7 ⟨qa, qc, ra, rc, rfl, o1, o2, hb7⟩; go_must (obtain ⟨W3, W4, HW3, HW4, ⟨n2, n3⟩, ⟨f2, f3⟩, HP4, HB4⟩ := boxM24 w7 (.slice qa ms.length qc) (.slice ra ys.length rc); have HO4 : Hid (RoN W4 wk.heap.size (.slice qa ms.length qc) ms) := own_below o1 HB4.out (Nat.le_refl _); have HR4 := keepG ((HNK.out.below hb7).below HB4.out); have HB64 := keepG (HBK.out.trans ((hb7.trans (HB4.out.mono hb7.size)).mono HBK.out.size)); have hck2 : W4.cell? ⟨pp, k, none⟩ = some (.int .i64 (q : Int)) := (by have h := (HVK.out.below (hb7.trans (HB4.out.mono hb7.size))).cellP hkl; rw [HPN.out] at h; exact h); have hg := HR4.out.at (gnB_len _) hq130; rw [gnB_at _ hq130, show gnd r' q = false from decide_eq_false (fun g => by have := g.2.2; omega)] at hg; clear hb7 o1 o2))
           | (rw [HW3.out])
           | (rw [HW4.out]))
          go_loopw [14, 18] (fun tt jj wj => ∃ d : Nat, d <= ms.length /\ jj = .int .i64 d /\ tt = .int .i64 ((cntK r' m k + cntQ m ms d : Nat) : Int) /\ Hid (Below W4.heap.size W4 wj)) (fun _ jj _ => ms.length - (intOf jj).toNat)
          case atStart => exact ⟨0, by omega, rfl, rfl, Below.refl _ _⟩
          case round =>
           rename World => wj
           obtain ⟨d, hd, rfl, rfl, HBJ⟩ := hrel
           have y0 := (HP4.out.below HBJ.out HP4.out.lt).cell (j := 0) rfl
           have hcq := cntQ_one (m : Int) hnd d
           have hb16 : k <= 16 := by have := HLA2.out; omega
           by_cases hdl : d < ms.length
           ·have hdlI : (d : Int) < ms.length := by omega
            obtain ⟨pq, cap2, ev, _, _, hcc1, hcc2, hcl, _⟩ := (HO4.out.below HBJ.out).cells (by omega)
            injection ev with ev1 _ ev2
            subst ev1 ev2
            have hcd := (hcl d hdl).1
            clear hcl
            have HCQ := keepG (cntQ_more (m : Int) ms hdl)
            obtain ⟨y, HY⟩ : ∃ y, Hid (ms.getD d 0 = y) := ⟨_, rfl⟩
            rw [HY.out] at hcd HCQ
            by_cases heq : y = m
            ·have heqb : (y == (m : Int)) = true := by simpa using heq
             go_wp2
             go_roundw
             case rel => exact ⟨d + 1, by omega, by go_num, by rw [HCQ.out, if_pos heq]; go_num, HBJ.out⟩
             case measure => simp [intOf]; omega
            ·have heqb : (y == (m : Int)) = false := by simpa using heq
             go_wp2
             go_roundw
             case rel => exact ⟨d + 1, by omega, by go_num, by rw [HCQ.out, if_neg heq], HBJ.out⟩
             case measure => simp [intOf]; omega
           ·have hdlI : ¬ (d : Int) < ms.length := by omega
            have hde : d = ms.length := by omega
            subst hde
            go_wp2
            go_roundw
            case rel => exact ⟨k + 1, by omega, by go_num, by rw [HCK.out], HB64.out.trans (HBJ.out.mono HB64.out.size)⟩
            case measure => simp [intOf]; omega
         ·have hklI : ¬ (k : Int) < r'.all.length := by omega
          have hke : k = r'.all.length := by omega
          subst hke
          obtain ⟨-, lo1, -⟩ := HNK.out.lz.low
          have HCN : Hid ((if inM r'.mp m = true then (r'.names m, (0 : Int)) else (0, 2)) = (((cntK r' m r'.all.length : Nat) : Int), (0 : Int))) := by
           show _ = _
           rw [if_pos (by unfold inM; rw [HMP2.out]; simp; omega), cntK_all]
          have hneb : (((cntK r' m r'.all.length : Nat) : Int) != ((cntK r' m r'.all.length : Nat) : Int)) = false := by simp
          go_wp2_with (go_at_call 12; go_must (refine (HNK.out.lz.reg.count HNK.out.lz.ok m HCN).mono ?_); rintro e9 w9 ⟨rfl, hb9⟩; go_must (have HB9 := keepG (HBK.out.trans (hb9.mono HBK.out.size)); clear hb9))
          go_roundw
          case rel => exact ⟨m + 1, by omega, by go_num, HB9.out⟩
          case measure => simp [intOf]; omega
       ·have hm4I : ¬ (m : Int) < 4 := by omega
        have HNQ := keepG (HN6.out.below HBQ.out)
        go_wp2
        go_roundw
        case rel => exact ⟨j + 1, by omega, by omega, G', r', by go_num, HFW.out, HMP2.out, HNQ.out⟩
        case measure => simp [intOf]; omega
  ·by_cases h1 : (j : Int) < xs.length
   ·have h2 : ¬ (j : Int) < 120 := by omega
    as_aux_lemma =>
     go_wp2
     go_loopw [21] (fun nn wq => ∃ k : Nat, k <= 130 /\ nn = .int .i64 k /\ ∃ G1 r1, Hid (r1.Few (120 + k)) /\ Hid (Rf w wq b bt br bc G1 r1 rb (gnB r1))) (fun nn _ => 130 - (intOf nn).toNat)
     case atStart => exact ⟨0, by omega, rfl, G, r, ⟨by have := HF.out.ps; omega, by have := HF.out.la; omega, by have := HF.out.nw; omega⟩, HN.out⟩
     case round =>
      rename World => wq
      obtain ⟨k, hk, rfl, G1, r1, HF1, HR1⟩ := hrel
      by_cases hlt2 : k < 130
      ·have hltI2 : (k : Int) < 130 := by omega
       have hcl := HR1.out.at (gnB_len _) hlt2
       rw [gnB_at _ hlt2] at hcl
       obtain ⟨⟨v1, E1, r2⟩, HQ⟩ : ∃ q, Hid (r1.put false 0 k = q) := ⟨_, rfl⟩
       have hply : r1.play 1 0 k [] = (v1, E1, r2) := HQ.out
       have HGN := keepG (play_gn HR1.out.lz.ok hply (by decide))
       have HFW := keepG (play_few HF1.out hply)
       have HOK := keepG (play_ok HR1.out.lz.ok hply)
       clear hply
       by_cases hs : r1.st k = 2
       ·have hQ := HQ.out
        unfold Rg.put at hQ
        have hh : r1.tb.has 0 = true := by
         unfold Tb.has
         have := HR1.out.lz.ok.tb.len
         rw [Bool.and_eq_true, decide_eq_true_eq, decide_eq_true_eq]
         omega
        rw [if_neg (by rw [hh]; decide), if_pos (by rw [hs]; decide)] at hQ
        injection hQ with q1 hQ
        injection hQ with q2 q3
        subst q1 q2 q3
        have HMO : Hid (Calls Tryz.prog 11 #[.pointer (some ⟨b, 0, none⟩), .int .i64 k] wq fun e w' => e = .returned (.tuple #[.agg #[.slice none 0 0, .slice none 0 0], .bool false]) /\ Below wq.heap.size wq w') := lmodule HR1.out.lz.reg HR1.out.lz.ok k (show Hid (_ -> _) from fun e => absurd e (by omega)) (show Hid (_ -> _) from fun _ w' hb => ⟨rfl, hb⟩)
        cases hg : gnd r1 k
        all_goals (
         rw [hg] at hcl
         go_wp2_with (first
          | (go_at_call 11; go_must (refine HMO.out.mono ?_); rintro e7 w7 ⟨rfl, hb7⟩; go_must (obtain ⟨W3, W4, HW3, HW4, ⟨n2, n3⟩, ⟨f2, f3⟩, HP4, HB4⟩ := boxM24 w7 (.slice none 0 0) (.slice none 0 0); have HR4 := keepG ((HR1.out.below hb7).below HB4.out); clear hb7))
          | (rw [HW3.out])
          | (rw [HW4.out])
          | (go_at_call 13; go_must (refine (HR4.out.lz.reg.attach HR4.out.lz.ok (by have := HF1.out.la; omega) 0 k HQ).mono ?_); rintro e8 w8 ⟨rfl, G2, hl8, hn8⟩; go_must (have HR8 := keepG (HR4.out.next (HR4.out.lz.next hl8 hn8 HOK.out) hn8); have hcl := HR8.out.at (gnB_len _) hlt2; rw [gnB_at _ hlt2, hg] at hcl; clear hl8 hn8)))
         go_roundw
         case rel => exact ⟨k + 1, by omega, by go_num, G2, r1, HFW.out, HR8.out⟩
         case measure => simp [intOf]; omega)
       ·have hst := stP_le HR1.out.lz.ok.sb k
        rw [<- Rg.st_eq] at hst
        have hg : gnd r1 k = false := decide_eq_false (fun g => hs g.2.2)
        rw [hg] at hcl
        obtain ⟨⟨ms, ys, ss, ep⟩, hpg⟩ : ∃ q, r1.pg k = q := ⟨_, rfl⟩
        go_wp2_with (first
         | (go_at_call 11; go_must (refine (lmodule_yes HR1.out.lz.reg HR1.out.lz.ok k (by omega) hpg).mono ?_); rintro e7 w7 ⟨qa, qc, ra, rc, rfl, o1, o2, hb7⟩; go_must (obtain ⟨W3, W4, HW3, HW4, ⟨n2, n3⟩, ⟨f2, f3⟩, HP4, HB4⟩ := boxM24 w7 (.slice qa ms.length qc) (.slice ra ys.length rc); have HR4 := keepG ((HR1.out.below hb7).below HB4.out); clear hb7 o1 o2))
         | (rw [HW3.out])
         | (rw [HW4.out])
         | (go_at_call 13; go_must (refine (HR4.out.lz.reg.attach HR4.out.lz.ok (by have := HF1.out.la; omega) 0 k HQ).mono ?_); rintro e8 w8 ⟨rfl, G2, hl8, hn8⟩; go_must (have HR8 := keepG (HR4.out.next (HR4.out.lz.next hl8 hn8 HOK.out) hn8); have hcl := HR8.out.at (gnB_len _) hlt2; rw [gnB_at _ hlt2, hg] at hcl; clear hl8 hn8)))
        go_roundw
        case rel => exact ⟨k + 1, by omega, by go_num, G2, r2, HFW.out, by rw [HGN.out]; exact HR8.out⟩
        case measure => simp [intOf]; omega
      ·have hltI2 : ¬ (k : Int) < 130 := by omega
       have HBE := keepG HR1.out.lz.be
       go_wp2
       go_ret
       exact ⟨rfl, HBE.out⟩
   ·have h2 : True := True.intro
    as_aux_lemma =>
     go_wp2
     go_loopw [21] (fun nn wq => ∃ k : Nat, k <= 130 /\ nn = .int .i64 k /\ ∃ G1 r1, Hid (r1.Few (120 + k)) /\ Hid (Rf w wq b bt br bc G1 r1 rb (gnB r1))) (fun nn _ => 130 - (intOf nn).toNat)
     case atStart => exact ⟨0, by omega, rfl, G, r, ⟨by have := HF.out.ps; omega, by have := HF.out.la; omega, by have := HF.out.nw; omega⟩, HN.out⟩
     case round =>
      rename World => wq
      obtain ⟨k, hk, rfl, G1, r1, HF1, HR1⟩ := hrel
      by_cases hlt2 : k < 130
      ·have hltI2 : (k : Int) < 130 := by omega
       have hcl := HR1.out.at (gnB_len _) hlt2
       rw [gnB_at _ hlt2] at hcl
       obtain ⟨⟨v1, E1, r2⟩, HQ⟩ : ∃ q, Hid (r1.put false 0 k = q) := ⟨_, rfl⟩
       have hply : r1.play 1 0 k [] = (v1, E1, r2) := HQ.out
       have HGN := keepG (play_gn HR1.out.lz.ok hply (by decide))
       have HFW := keepG (play_few HF1.out hply)
       have HOK := keepG (play_ok HR1.out.lz.ok hply)
       clear hply
       by_cases hs : r1.st k = 2
       ·have hQ := HQ.out
        unfold Rg.put at hQ
        have hh : r1.tb.has 0 = true := by
         unfold Tb.has
         have := HR1.out.lz.ok.tb.len
         rw [Bool.and_eq_true, decide_eq_true_eq, decide_eq_true_eq]
         omega
        rw [if_neg (by rw [hh]; decide), if_pos (by rw [hs]; decide)] at hQ
        injection hQ with q1 hQ
        injection hQ with q2 q3
        subst q1 q2 q3
        have HMO : Hid (Calls Tryz.prog 11 #[.pointer (some ⟨b, 0, none⟩), .int .i64 k] wq fun e w' => e = .returned (.tuple #[.agg #[.slice none 0 0, .slice none 0 0], .bool false]) /\ Below wq.heap.size wq w') := lmodule HR1.out.lz.reg HR1.out.lz.ok k (show Hid (_ -> _) from fun e => absurd e (by omega)) (show Hid (_ -> _) from fun _ w' hb => ⟨rfl, hb⟩)
        cases hg : gnd r1 k
        all_goals (
         rw [hg] at hcl
         go_wp2_with (first
          | (go_at_call 11; go_must (refine HMO.out.mono ?_); rintro e7 w7 ⟨rfl, hb7⟩; go_must (obtain ⟨W3, W4, HW3, HW4, ⟨n2, n3⟩, ⟨f2, f3⟩, HP4, HB4⟩ := boxM24 w7 (.slice none 0 0) (.slice none 0 0); have HR4 := keepG ((HR1.out.below hb7).below HB4.out); clear hb7))
          | (rw [HW3.out])
          | (rw [HW4.out])
          | (go_at_call 13; go_must (refine (HR4.out.lz.reg.attach HR4.out.lz.ok (by have := HF1.out.la; omega) 0 k HQ).mono ?_); rintro e8 w8 ⟨rfl, G2, hl8, hn8⟩; go_must (have HR8 := keepG (HR4.out.next (HR4.out.lz.next hl8 hn8 HOK.out) hn8); have hcl := HR8.out.at (gnB_len _) hlt2; rw [gnB_at _ hlt2, hg] at hcl; clear hl8 hn8)))
         go_roundw
         case rel => exact ⟨k + 1, by omega, by go_num, G2, r1, HFW.out, HR8.out⟩
         case measure => simp [intOf]; omega)
       ·have hst := stP_le HR1.out.lz.ok.sb k
        rw [<- Rg.st_eq] at hst
        have hg : gnd r1 k = false := decide_eq_false (fun g => hs g.2.2)
        rw [hg] at hcl
        obtain ⟨⟨ms, ys, ss, ep⟩, hpg⟩ : ∃ q, r1.pg k = q := ⟨_, rfl⟩
        go_wp2_with (first
         | (go_at_call 11; go_must (refine (lmodule_yes HR1.out.lz.reg HR1.out.lz.ok k (by omega) hpg).mono ?_); rintro e7 w7 ⟨qa, qc, ra, rc, rfl, o1, o2, hb7⟩; go_must (obtain ⟨W3, W4, HW3, HW4, ⟨n2, n3⟩, ⟨f2, f3⟩, HP4, HB4⟩ := boxM24 w7 (.slice qa ms.length qc) (.slice ra ys.length rc); have HR4 := keepG ((HR1.out.below hb7).below HB4.out); clear hb7 o1 o2))
         | (rw [HW3.out])
         | (rw [HW4.out])
         | (go_at_call 13; go_must (refine (HR4.out.lz.reg.attach HR4.out.lz.ok (by have := HF1.out.la; omega) 0 k HQ).mono ?_); rintro e8 w8 ⟨rfl, G2, hl8, hn8⟩; go_must (have HR8 := keepG (HR4.out.next (HR4.out.lz.next hl8 hn8 HOK.out) hn8); have hcl := HR8.out.at (gnB_len _) hlt2; rw [gnB_at _ hlt2, hg] at hcl; clear hl8 hn8)))
        go_roundw
        case rel => exact ⟨k + 1, by omega, by go_num, G2, r2, HFW.out, by rw [HGN.out]; exact HR8.out⟩
        case measure => simp [intOf]; omega
      ·have hltI2 : ¬ (k : Int) < 130 := by omega
       have HBE := keepG HR1.out.lz.be
       go_wp2
       go_ret
       exact ⟨rfl, HBE.out⟩
theorem registryRefs_walk (sv : Value) (is : List Ow24) (w : World) (hs : Scq24 w sv is) (hl : is.length * 48 <= 140737488351232 /\ ∀ x ∈ is, x.ws.length <= 140737488351232) : Calls Tryz.prog 3 #[sv] w fun e w' => e = .returned (.bool true) /\ Below w.heap.size w w' := refs_walk sv is w (hs.scr hl)
end Go.Proofs.YtlkdniglaldilaaGreat
