
/-
 What the landed judge's leave does to what is known. Conditions: a right instruction; states of eight well made types; the places to which it leads are there.
-/
import Derived.Test.YtbaeakbnoijkcaaGreatMT35
namespace Go.Proofs.YtbaeakbnoijkcaaGreat
open Go.RowKit
set_option linter.unusedVariables false
set_option linter.unusedSimpArgs false
set_option maxRecDepth 100000

def leaveK (i : In) (p : Nat) (K : Kn) : Kn :=
 if i.op = 22 then K
 else if i.op = 15 then arrK K ((p : Int) + i.far).toNat (K.getD p kn0).1 (K.getD p kn0).2
 else if 16 <= i.op /\ i.op <= 19 then arrK (arrK K (p + 1) (refS i (K.getD p kn0).1 (K.getD p kn0).2 false).1 (refS i (K.getD p kn0).1 (K.getD p kn0).2 false).2) ((p : Int) + i.far).toNat (refS i (K.getD p kn0).1 (K.getD p kn0).2 true).1 (refS i (K.getD p kn0).1 (K.getD p kn0).2 true).2
 else arrK K (p + 1) (K.getD p kn0).1 (wrS i (K.getD p kn0).2)
theorem lwritten_as {nm : Nat} {i : In} {s s' : St} (r : Bool) (w : World) (h : Hid (wrS i s = s')) (h8 : Made8 nm s) (hr : i.right = true) : Calls Tryz.prog 68 #[stV r s, i.v] w fun e w' => e = .returned (stV r s') /\ Below w.heap.size w w' := by
 rw [<- h.out]; exact lwritten_any nm i r s w h8 hr
theorem qBq {nm : Nat} {i : In} {r r' : Bool} {s s' : St} {holds : Bool} (w : World) (h : Hid (refS i r s holds = (r', s'))) (h8 : Made8 nm s) (ha : 0 <= i.a /\ i.a <= 7) (hb : i.b = 8 ∨ (0 <= i.b /\ i.b <= 7)) : Calls Tryz.prog 67 #[stV r s, i.v, .bool holds] w fun e w' => e = .returned (stV r' s') /\ Below w.heap.size w w' := by
 have := lrefined_any nm i r s holds w h8 ha hb
 rw [h.out] at this
 exact this
set_option maxHeartbeats 3200000 in
theorem lleave_exit (w0 w : World) (qb kb nm cb co ccap p : Nat) (vl : Value) (xs : List In) (ls : List Lp) (K : Kn) (h : Inq w0 w qb kb nm vl cb co ccap xs ls K) (hp : p < xs.length) (h64 : xs.length <= 64) (hM : MadeK nm K) (d a b imm : Int) (HI : Hid (nth xs p = ⟨22, d, a, b, imm⟩)) (r : Bool) (s : St) (HK : Hid (K.getD p kn0 = (r, s))) (f : Int) (l o : Bool) (HF : Hid (f = In.far ⟨22, d, a, b, imm⟩)) (HL : Hid (l = In.leads ⟨22, d, a, b, imm⟩)) (HO : Hid (o = In.on ⟨22, d, a, b, imm⟩)) : Calls Tryz.prog 40 #[.pointer (some ⟨qb, 0, none⟩), .int .i64 p] w fun e w' => e = .returned (.tuple #[]) /\ Inq w0 w' qb kb nm vl cb co ccap xs ls (K) := by
 obtain ⟨hat, hcb, hN, hcc⟩ := h.at hp
 rw [HI.out] at hat
 obtain ⟨c0, c1, c2, c3, c4⟩ := hat
 simp only at c0 c1 c2 c3 c4
 have hpI : (p : Int) < xs.length := by omega
 have h8 : s.length = 8 := by have := h.e8.at p; rw [HK.out] at this; exact this
 have hst : StAt w kb (p * 33) r s := h.k.state h.e8 (by rw [h.len]; exact hp) HK.out
 have hqz := h.q.lt
 have hkz := h.k.lt
 have hbz := h.b0.size
 have HP : Hid (∀ w', Below w.heap.size w w' -> w'.cell? ⟨qb, 1, none⟩ = some (.slice (some ⟨cb, co, none⟩) xs.length ccap) /\ w'.cell? ⟨qb, 3, none⟩ = some (.slice (some ⟨kb, 0, none⟩) xs.length xs.length) /\ w'.cell? ⟨cb, co + p * 5, none⟩ = some (.int .i64 22) /\ w'.cell? ⟨cb, co + p * 5 + 1, none⟩ = some (.int .i64 d) /\ w'.cell? ⟨cb, co + p * 5 + 2, none⟩ = some (.int .i64 a) /\ w'.cell? ⟨cb, co + p * 5 + 3, none⟩ = some (.int .i64 b) /\ w'.cell? ⟨cb, co + p * 5 + 4, none⟩ = some (.int .i64 imm) /\ StAt w' kb (p * 33) r s) := fun w' hb' => by
  have hA := At.below (i := ⟨22, d, a, b, imm⟩) ⟨c0, c1, c2, c3, c4⟩ hb' (by omega)
  exact ⟨(h.q.below hb' hqz).cell rfl, (h.q.below hb' hqz).cell rfl, hA.1, hA.2.1, hA.2.2.1, hA.2.2.2.1, hA.2.2.2.2, hst.below hb' hkz⟩
 clear c0 c1 c2 c3 c4 hst
 have hs8 : Made8 nm s := by have := hM.at p; rw [HK.out] at this; exact this
 have HM := keepJ hM
 have HS8 := keepJ hs8
 have HSZ := keepJ (sizeJ (r := r) h8)
 have hp64 : (p : Int) < 64 := by omega
 clear hs8 hM
 go_enter Tryz.func40, Tryz.ntmps40
 go_wp2_with (fail)
 go_cut [4, 5] from 9 (fun v4 v5 wc => Taken2 w wc ⟨22, d, a, b, imm⟩ r s v4 v5)
 case rest =>
  obtain ⟨ib, sb, rfl, rfl, hiC, hsC, hbC, hi1, hs1, his⟩ := hcut
  have HQ := keepJ (h.below hbC)
  have HiC := keepJ hiC
  have HsC := keepJ hsC
  obtain ⟨y0, y1, y2, y3, y4⟩ := id hiC.inst
  have hzi := hiC.lt
  have hzs := hsC.lt
  have hkb : kb < wc.heap.size := HQ.out.k.lt
  have hikb : ib ≠ kb := by omega
  have hskb : sb ≠ kb := by omega
  clear hiC hsC HP h
  go_wp2_with (first
   | (go_at_call 45; go_must (refine (goes_one (i := ⟨22, d, a, b, imm⟩) (show Hid _ from rfl) HF HL HO _).mono ?_); rintro e w1 ⟨rfl, hb1⟩; go_must (have HQ1 := keepJ (HQ.out.below hb1); have HL1 := keepJ (HsC.out.below hb1 hzs).oneR; obtain ⟨x0, x1, x2, x3, x4⟩ := Box.below HiC.out.inst hb1 hzi; have hz1 := hb1.size; clear y0 y1 y2 y3 y4))
   | fail)
  exact bodyPost_end (results_none rfl _ _ _) rfl ⟨rfl, HQ1.out⟩
 case first =>
  refine wp_region_held_drew (S := fun w' => w'.cell? ⟨qb, 1, none⟩ = some (.slice (some ⟨cb, co, none⟩) xs.length ccap) /\ w'.cell? ⟨qb, 3, none⟩ = some (.slice (some ⟨kb, 0, none⟩) xs.length xs.length) /\ w'.cell? ⟨cb, co + p * 5, none⟩ = some (.int .i64 22) /\ w'.cell? ⟨cb, co + p * 5 + 1, none⟩ = some (.int .i64 d) /\ w'.cell? ⟨cb, co + p * 5 + 2, none⟩ = some (.int .i64 a) /\ w'.cell? ⟨cb, co + p * 5 + 3, none⟩ = some (.int .i64 b) /\ w'.cell? ⟨cb, co + p * 5 + 4, none⟩ = some (.int .i64 imm) /\ StAt w' kb (p * 33) r s) (by kernel_rfl) (HP.out _ (Below.refl _ _).drew) (fun hHeld => ?_)
  refine wpAnyH_take (i := 0) (v := ?v1) rfl (by kernel_rfl) (by kernel_rfl) (by kernel_rfl) (fun _ _ _ h => h) (Or.inl ⟨by rfl, ?hy1⟩) (by assumption) ?rest1
  case hy1 => (intro wy hSw; (try dsimp only at hSw); go_simp; (first | done | with_reducible rfl))
  try simp only [Act.put, p1q, p2q, p3q, p4q, p5q, p6q]
  refine wpAnyH_take (i := 1) (v := ?v2) rfl (by kernel_rfl) (by kernel_rfl) (by kernel_rfl) (fun _ _ _ h => h) (Or.inl ⟨by rfl, ?hy2⟩) (by assumption) ?rest2
  case hy2 => (intro wy hSw; (try dsimp only at hSw); go_simp; (first | done | with_reducible rfl))
  try simp only [Act.put, p1q, p2q, p3q, p4q, p5q, p6q]
  refine wpAnyH_take (i := 2) (v := ?v3) rfl (by kernel_rfl) (by kernel_rfl) (by kernel_rfl) (fun _ _ _ h => h) (Or.inl ⟨by rfl, ?hy3⟩) (by assumption) ?rest3
  case hy3 => (intro wy hSw; (try dsimp only at hSw); go_simp; (first | done | with_reducible rfl))
  try simp only [Act.put, p1q, p2q, p3q, p4q, p5q, p6q]
  refine wpAnyH_take (i := 3) (v := ?v4) rfl (by kernel_rfl) (by kernel_rfl) (by kernel_rfl) (fun _ _ _ h => h) (Or.inl ⟨by rfl, ?hy4⟩) (by assumption) ?rest4
  case hy4 => (intro wy hSw; (try dsimp only at hSw); go_simp; (first | done | with_reducible rfl))
  try simp only [Act.put, p1q, p2q, p3q, p4q, p5q, p6q]
  refine wpAnyH_take (i := 4) (v := ?v5) rfl (by kernel_rfl) (by kernel_rfl) (by kernel_rfl) (fun _ _ _ h => h) (Or.inl ⟨by rfl, ?hy5⟩) (by assumption) ?rest5
  case hy5 => (intro wy hSw; (try dsimp only at hSw); go_simp; (first | done | with_reducible rfl))
  try simp only [Act.put, p1q, p2q, p3q, p4q, p5q, p6q]
  refine wpAnyH_take (i := 5) (v := ?v6) rfl (by kernel_rfl) (by kernel_rfl) (by kernel_rfl) (fun _ _ _ h => h) (Or.inl ⟨by rfl, ?hy6⟩) (by assumption) ?rest6
  case hy6 => (intro wy hSw; (try dsimp only at hSw); go_simp; (first | done | with_reducible rfl))
  try simp only [Act.put, p1q, p2q, p3q, p4q, p5q, p6q]
  refine wpAnyH_take (i := 6) (v := ?v7) rfl (by kernel_rfl) (by kernel_rfl) (by kernel_rfl) (fun _ _ _ h => h) (Or.inl ⟨by rfl, ?hy7⟩) (by assumption) ?rest7
  case hy7 => (intro wy hSw; (try dsimp only at hSw); go_simp; (first | done | with_reducible rfl))
  try simp only [Act.put, p1q, p2q, p3q, p4q, p5q, p6q]
  refine wpAnyH_take (i := 7) (v := ?v8) rfl (by kernel_rfl) (by kernel_rfl) (by kernel_rfl) (fun _ _ _ h => h) (Or.inl ⟨by rfl, ?hy8⟩) (by assumption) ?rest8
  case hy8 => (intro wy hSw; (try dsimp only at hSw); go_simp; (first | done | with_reducible rfl))
  try simp only [Act.put, p1q, p2q, p3q, p4q, p5q, p6q]
  refine wpAnyH_take (i := 8) (v := ?v9) rfl (by kernel_rfl) (by kernel_rfl) (by kernel_rfl) (fun _ _ _ h => h) (Or.inl ⟨by rfl, ?hy9⟩) (by assumption) ?rest9
  case hy9 => (intro wy hSw; (try dsimp only at hSw); go_simp; (first | done | with_reducible rfl))
  try simp only [Act.put, p1q, p2q, p3q, p4q, p5q, p6q]
  refine wpAnyH_take (i := 9) (v := ?v10) rfl (by kernel_rfl) (by kernel_rfl) (by kernel_rfl) (fun _ _ _ h => h) (Or.inl ⟨by rfl, ?hy10⟩) (by assumption) ?rest10
  case hy10 => (intro wy hSw; (try dsimp only at hSw); go_simp; (first | done | with_reducible rfl))
  try simp only [Act.put, p1q, p2q, p3q, p4q, p5q, p6q]
  refine wpAnyH_take (i := 10) (v := ?v11) rfl (by kernel_rfl) (by kernel_rfl) (by kernel_rfl) (fun _ _ _ h => h) (Or.inl ⟨by rfl, ?hy11⟩) (by assumption) ?rest11
  case hy11 => (intro wy hSw; (try dsimp only at hSw); go_simp; (first | done | with_reducible rfl))
  try simp only [Act.put, p1q, p2q, p3q, p4q, p5q, p6q]
  refine wpAnyH_take (i := 11) (v := ?v12) rfl (by kernel_rfl) (by kernel_rfl) (by kernel_rfl) (fun _ _ _ h => h) (Or.inl ⟨by rfl, ?hy12⟩) (by assumption) ?rest12
  case hy12 => (intro wy hSw; (try dsimp only at hSw); go_simp; (first | done | with_reducible rfl))
  try simp only [Act.put, p1q, p2q, p3q, p4q, p5q, p6q]
  refine wpAnyH_take (i := 12) (v := ?v13) rfl (by kernel_rfl) (by kernel_rfl) (by kernel_rfl) (fun _ _ _ h => h) (Or.inl ⟨by rfl, ?hy13⟩) (by assumption) ?rest13
  case hy13 => (intro wy hSw; (try dsimp only at hSw); go_simp; (first | done | with_reducible rfl))
  try simp only [Act.put, p1q, p2q, p3q, p4q, p5q, p6q]
  refine wpAnyH_take (i := 13) rfl (by kernel_rfl) (by kernel_rfl) (by kernel_rfl) (fun _ _ _ h => h) (yieldsIf_load_mid (by rfl) _ _ rfl _ _ rfl (stC r s) _ (fun w h => h.2.2.2.2.2.2.2) Tryz.underlying111 rfl (sizeJ h8)) (by assumption) ?_
  try simp only [Act.put, p1q, p2q, p3q, p4q, p5q, p6q]
  refine wpAnyH_ready (rs := [14, 15]) (by kernel_rfl) (by simp) ?_
  refine AllReadyH.cons rfl (fun KK hK => ?_) (AllReadyH.cons rfl (fun KK hK => ?_) AllReadyH.nil) <;> rw [if_pos (by rfl)]
  ·go_simp
   refine hK.out _ _ (HP.out _ ((Below.refl _ _).alloc (Nat.le_refl _) _).drew) (fun hHeld => ?_)
   clear hK KK
   try simp only [Act.put, p1q, p2q, p3q, p4q, p5q, p6q]
   refine wpAnyH_ready (rs := [15]) (by kernel_rfl) (by simp) ?_
   refine AllReadyH.cons rfl (fun KK hK => ?_) AllReadyH.nil
   rw [if_pos (by rfl)]
   go_simp
   obtain ⟨Y, HY, HiY, HsY, hbY, hzY⟩ : ∃ Y, Hid (Y = (w.alloc (Obj.cells #[.int .i64 0, .int .i64 0, .int .i64 0, .int .i64 0, .int .i64 0] 70)).alloc (Obj.cells #[.bool false, .int .i64 0, .int .u64 0, .int .u64 0, .int .i64 0, .int .i64 0, .int .u64 0, .int .u64 0, .int .i64 0, .int .i64 0, .int .u64 0, .int .u64 0, .int .i64 0, .int .i64 0, .int .u64 0, .int .u64 0, .int .i64 0, .int .i64 0, .int .u64 0, .int .u64 0, .int .i64 0, .int .i64 0, .int .u64 0, .int .u64 0, .int .i64 0, .int .i64 0, .int .u64 0, .int .u64 0, .int .i64 0, .int .i64 0, .int .u64 0, .int .u64 0, .int .i64 0] 111)) /\ Hid (Hp Y w.heap.size 70 (inC ⟨0, 0, 0, 0, 0⟩)) /\ Hid (Hp Y (w.heap.size + 1) 111 zeroC) /\ Below w.heap.size w Y /\ w.heap.size + 2 <= Y.heap.size := ⟨_, rfl, (Hp.new w (inC ⟨0, 0, 0, 0, 0⟩) _).alloc _, keepJ (by have := Hp.new (w.alloc (Obj.cells #[.int .i64 0, .int .i64 0, .int .i64 0, .int .i64 0, .int .i64 0] 70)) zeroC 111; simpa [zeroC] using this), by go_grown, by simp⟩
   rw [<- HY.out]
   clear HY
   refine hK.out _ _ (HP.out _ hbY.drew) (fun hHeld => ?_)
   clear hK KK
   try simp only [Act.put, p1q, p2q, p3q, p4q, p5q, p6q]
   have n0 : Y.cell? ⟨w.heap.size, 0, none⟩ = some (.int .i64 0) := HiY.out.cell rfl
   have f0 := HiY.out.frozen 0
   have n1 : Y.cell? ⟨w.heap.size, 1, none⟩ = some (.int .i64 0) := HiY.out.cell rfl
   have f1 := HiY.out.frozen 1
   have n2 : Y.cell? ⟨w.heap.size, 2, none⟩ = some (.int .i64 0) := HiY.out.cell rfl
   have f2 := HiY.out.frozen 2
   have n3 : Y.cell? ⟨w.heap.size, 3, none⟩ = some (.int .i64 0) := HiY.out.cell rfl
   have f3 := HiY.out.frozen 3
   have n4 : Y.cell? ⟨w.heap.size, 4, none⟩ = some (.int .i64 0) := HiY.out.cell rfl
   have f4 := HiY.out.frozen 4
   refine wpAnyH_ready (rs := [16]) (by kernel_rfl) (by simp) ?_
   refine AllReadyH.cons rfl (fun KK hK => ?_) AllReadyH.nil
   rw [if_pos (by rfl)]
   go_simp
   clear n0 n1 n2 n3 n4 f0 f1 f2 f3 f4
   obtain ⟨V, HV, HiV, HsV, hbV, hzV⟩ : ∃ V, Hid (V = (((((Y.setCell ⟨w.heap.size, 0, none⟩ (.int .i64 22)).setCell ⟨w.heap.size, 1, none⟩ (.int .i64 d)).setCell ⟨w.heap.size, 2, none⟩ (.int .i64 a)).setCell ⟨w.heap.size, 3, none⟩ (.int .i64 b)).setCell ⟨w.heap.size, 4, none⟩ (.int .i64 imm))) /\ Hid (Hp V w.heap.size 70 (inC ⟨22, d, a, b, imm⟩)) /\ Hid (Hp V (w.heap.size + 1) 111 zeroC) /\ Below w.heap.size w V /\ w.heap.size + 2 <= V.heap.size := ⟨_, rfl, HiY.out.sets (inC ⟨22, d, a, b, imm⟩) 0, HsY.out.fars (by omega) (inC ⟨22, d, a, b, imm⟩) 0, hbY.trans (qAc (qAa _ (inC ⟨22, d, a, b, imm⟩) Y 0) (by omega) hbY.size), Nat.le_trans hzY (qAa _ (inC ⟨22, d, a, b, imm⟩) Y 0).size⟩
   rw [<- HV.out]
   clear HV HiY HsY
   refine hK.out _ _ (HP.out _ hbV.drew) (fun hHeld => ?_)
   clear hK KK
   try simp only [Act.put, p1q, p2q, p3q, p4q, p5q, p6q]
   refine wpAnyH_ready (rs := [17]) (by kernel_rfl) (by simp) ?_
   refine AllReadyH.cons rfl (fun KK hK => ?_) AllReadyH.nil
   rw [if_pos (by rfl)]
   have HTH : V.drew.there (w.heap.size + 1) 0 (stC r s).toArray.size := by rw [qAu r h8]; exact HsV.out.drew.there (by rw [qAe]; omega)
   refine wp_store_mid _ _ _ rfl _ _ (List.toArray _) rfl rfl HTH (sizeJA h8) (qAz r s) ?_
   have hbU : Below w.heap.size w (V.drew.setCells (w.heap.size + 1) 0 (stC r s)) := (hbV.drew).trans (qAc (qAa _ _ _ _) (by omega) (show w.heap.size <= V.heap.size by omega))
   refine hK.out _ _ (HP.out _ hbU) (fun hHeld => ?_)
   clear hK KK
   try simp only [Act.put, p1q, p2q, p3q, p4q, p5q, p6q]
   refine wpAnyH_done (by kernel_rfl) ?_ _
   go_wp2
   go_meet
   case rel => exact ⟨w.heap.size, (w.heap.size + 1), rfl, rfl, HiV.out.drew.fars (by omega) _ _, HsV.out.drew.box qAe h8, hbU, by omega, by omega, by omega⟩
  ·go_simp
   refine hK.out _ _ (HP.out _ ((Below.refl _ _).alloc (Nat.le_refl _) _).drew) (fun hHeld => ?_)
   clear hK KK
   try simp only [Act.put, p1q, p2q, p3q, p4q, p5q, p6q]
   refine wpAnyH_ready (rs := [14]) (by kernel_rfl) (by simp) ?_
   refine AllReadyH.cons rfl (fun KK hK => ?_) AllReadyH.nil
   rw [if_pos (by rfl)]
   go_simp
   obtain ⟨Y, HY, HiY, HsY, hbY, hzY⟩ : ∃ Y, Hid (Y = (w.alloc (Obj.cells #[.bool false, .int .i64 0, .int .u64 0, .int .u64 0, .int .i64 0, .int .i64 0, .int .u64 0, .int .u64 0, .int .i64 0, .int .i64 0, .int .u64 0, .int .u64 0, .int .i64 0, .int .i64 0, .int .u64 0, .int .u64 0, .int .i64 0, .int .i64 0, .int .u64 0, .int .u64 0, .int .i64 0, .int .i64 0, .int .u64 0, .int .u64 0, .int .i64 0, .int .i64 0, .int .u64 0, .int .u64 0, .int .i64 0, .int .i64 0, .int .u64 0, .int .u64 0, .int .i64 0] 111)).alloc (Obj.cells #[.int .i64 0, .int .i64 0, .int .i64 0, .int .i64 0, .int .i64 0] 70)) /\ Hid (Hp Y (w.heap.size + 1) 70 (inC ⟨0, 0, 0, 0, 0⟩)) /\ Hid (Hp Y w.heap.size 111 zeroC) /\ Below w.heap.size w Y /\ w.heap.size + 2 <= Y.heap.size := ⟨_, rfl, keepJ (by have := Hp.new (w.alloc (Obj.cells #[.bool false, .int .i64 0, .int .u64 0, .int .u64 0, .int .i64 0, .int .i64 0, .int .u64 0, .int .u64 0, .int .i64 0, .int .i64 0, .int .u64 0, .int .u64 0, .int .i64 0, .int .i64 0, .int .u64 0, .int .u64 0, .int .i64 0, .int .i64 0, .int .u64 0, .int .u64 0, .int .i64 0, .int .i64 0, .int .u64 0, .int .u64 0, .int .i64 0, .int .i64 0, .int .u64 0, .int .u64 0, .int .i64 0, .int .i64 0, .int .u64 0, .int .u64 0, .int .i64 0] 111)) (inC ⟨0, 0, 0, 0, 0⟩) 70; simpa [inC] using this), (Hp.new w zeroC _).alloc _, by go_grown, by simp⟩
   rw [<- HY.out]
   clear HY
   refine hK.out _ _ (HP.out _ hbY.drew) (fun hHeld => ?_)
   clear hK KK
   try simp only [Act.put, p1q, p2q, p3q, p4q, p5q, p6q]
   have n0 : Y.cell? ⟨(w.heap.size + 1), 0, none⟩ = some (.int .i64 0) := HiY.out.cell rfl
   have f0 := HiY.out.frozen 0
   have n1 : Y.cell? ⟨(w.heap.size + 1), 1, none⟩ = some (.int .i64 0) := HiY.out.cell rfl
   have f1 := HiY.out.frozen 1
   have n2 : Y.cell? ⟨(w.heap.size + 1), 2, none⟩ = some (.int .i64 0) := HiY.out.cell rfl
   have f2 := HiY.out.frozen 2
   have n3 : Y.cell? ⟨(w.heap.size + 1), 3, none⟩ = some (.int .i64 0) := HiY.out.cell rfl
   have f3 := HiY.out.frozen 3
   have n4 : Y.cell? ⟨(w.heap.size + 1), 4, none⟩ = some (.int .i64 0) := HiY.out.cell rfl
   have f4 := HiY.out.frozen 4
   refine wpAnyH_ready (rs := [16]) (by kernel_rfl) (by simp) ?_
   refine AllReadyH.cons rfl (fun KK hK => ?_) AllReadyH.nil
   rw [if_pos (by rfl)]
   go_simp
   clear n0 n1 n2 n3 n4 f0 f1 f2 f3 f4
   obtain ⟨V, HV, HiV, HsV, hbV, hzV⟩ : ∃ V, Hid (V = (((((Y.setCell ⟨(w.heap.size + 1), 0, none⟩ (.int .i64 22)).setCell ⟨(w.heap.size + 1), 1, none⟩ (.int .i64 d)).setCell ⟨(w.heap.size + 1), 2, none⟩ (.int .i64 a)).setCell ⟨(w.heap.size + 1), 3, none⟩ (.int .i64 b)).setCell ⟨(w.heap.size + 1), 4, none⟩ (.int .i64 imm))) /\ Hid (Hp V (w.heap.size + 1) 70 (inC ⟨22, d, a, b, imm⟩)) /\ Hid (Hp V w.heap.size 111 zeroC) /\ Below w.heap.size w V /\ w.heap.size + 2 <= V.heap.size := ⟨_, rfl, HiY.out.sets (inC ⟨22, d, a, b, imm⟩) 0, HsY.out.fars (by omega) (inC ⟨22, d, a, b, imm⟩) 0, hbY.trans (qAc (qAa _ (inC ⟨22, d, a, b, imm⟩) Y 0) (by omega) hbY.size), Nat.le_trans hzY (qAa _ (inC ⟨22, d, a, b, imm⟩) Y 0).size⟩
   rw [<- HV.out]
   clear HV HiY HsY
   refine hK.out _ _ (HP.out _ hbV.drew) (fun hHeld => ?_)
   clear hK KK
   try simp only [Act.put, p1q, p2q, p3q, p4q, p5q, p6q]
   refine wpAnyH_ready (rs := [17]) (by kernel_rfl) (by simp) ?_
   refine AllReadyH.cons rfl (fun KK hK => ?_) AllReadyH.nil
   rw [if_pos (by rfl)]
   have HTH : V.drew.there w.heap.size 0 (stC r s).toArray.size := by rw [qAu r h8]; exact HsV.out.drew.there (by rw [qAe]; omega)
   refine wp_store_mid _ _ _ rfl _ _ (List.toArray _) rfl rfl HTH (sizeJA h8) (qAz r s) ?_
   have hbU : Below w.heap.size w (V.drew.setCells w.heap.size 0 (stC r s)) := (hbV.drew).trans (qAc (qAa _ _ _ _) (by omega) (show w.heap.size <= V.heap.size by omega))
   refine hK.out _ _ (HP.out _ hbU) (fun hHeld => ?_)
   clear hK KK
   try simp only [Act.put, p1q, p2q, p3q, p4q, p5q, p6q]
   refine wpAnyH_done (by kernel_rfl) ?_ _
   go_wp2
   go_meet
   case rel => exact ⟨(w.heap.size + 1), w.heap.size, rfl, rfl, HiV.out.drew.fars (by omega) _ _, HsV.out.drew.box qAe h8, hbU, by omega, by omega, by omega⟩
set_option maxHeartbeats 3200000 in
theorem lleave_jump (w0 w : World) (qb kb nm cb co ccap p : Nat) (vl : Value) (xs : List In) (ls : List Lp) (K : Kn) (h : Inq w0 w qb kb nm vl cb co ccap xs ls K) (hp : p < xs.length) (h64 : xs.length <= 64) (hM : MadeK nm K) (d a b imm : Int) (HI : Hid (nth xs p = ⟨15, d, a, b, imm⟩)) (r : Bool) (s : St) (HK : Hid (K.getD p kn0 = (r, s))) (f : Int) (l o : Bool) (HF : Hid (f = In.far ⟨15, d, a, b, imm⟩)) (HL : Hid (l = In.leads ⟨15, d, a, b, imm⟩)) (HO : Hid (o = In.on ⟨15, d, a, b, imm⟩)) (n2 : Nat) (hn2 : n2 < xs.length) (HN2 : Hid ((p : Int) + f = n2)) (hf : 0 <= f /\ f <= 64) : Calls Tryz.prog 40 #[.pointer (some ⟨qb, 0, none⟩), .int .i64 p] w fun e w' => e = .returned (.tuple #[]) /\ Inq w0 w' qb kb nm vl cb co ccap xs ls (arrK K n2 r s) := by
 obtain ⟨hat, hcb, hN, hcc⟩ := h.at hp
 rw [HI.out] at hat
 obtain ⟨c0, c1, c2, c3, c4⟩ := hat
 simp only at c0 c1 c2 c3 c4
 have hpI : (p : Int) < xs.length := by omega
 have h8 : s.length = 8 := by have := h.e8.at p; rw [HK.out] at this; exact this
 have hst : StAt w kb (p * 33) r s := h.k.state h.e8 (by rw [h.len]; exact hp) HK.out
 have hqz := h.q.lt
 have hkz := h.k.lt
 have hbz := h.b0.size
 have HP : Hid (∀ w', Below w.heap.size w w' -> w'.cell? ⟨qb, 1, none⟩ = some (.slice (some ⟨cb, co, none⟩) xs.length ccap) /\ w'.cell? ⟨qb, 3, none⟩ = some (.slice (some ⟨kb, 0, none⟩) xs.length xs.length) /\ w'.cell? ⟨cb, co + p * 5, none⟩ = some (.int .i64 15) /\ w'.cell? ⟨cb, co + p * 5 + 1, none⟩ = some (.int .i64 d) /\ w'.cell? ⟨cb, co + p * 5 + 2, none⟩ = some (.int .i64 a) /\ w'.cell? ⟨cb, co + p * 5 + 3, none⟩ = some (.int .i64 b) /\ w'.cell? ⟨cb, co + p * 5 + 4, none⟩ = some (.int .i64 imm) /\ StAt w' kb (p * 33) r s) := fun w' hb' => by
  have hA := At.below (i := ⟨15, d, a, b, imm⟩) ⟨c0, c1, c2, c3, c4⟩ hb' (by omega)
  exact ⟨(h.q.below hb' hqz).cell rfl, (h.q.below hb' hqz).cell rfl, hA.1, hA.2.1, hA.2.2.1, hA.2.2.2.1, hA.2.2.2.2, hst.below hb' hkz⟩
 clear c0 c1 c2 c3 c4 hst
 have hs8 : Made8 nm s := by have := hM.at p; rw [HK.out] at this; exact this
 have HM := keepJ hM
 have HS8 := keepJ hs8
 have HSZ := keepJ (sizeJ (r := r) h8)
 have hp64 : (p : Int) < 64 := by omega
 clear hs8 hM
 go_enter Tryz.func40, Tryz.ntmps40
 go_wp2_with (fail)
 go_cut [4, 5] from 9 (fun v4 v5 wc => Taken2 w wc ⟨15, d, a, b, imm⟩ r s v4 v5)
 case rest =>
  obtain ⟨ib, sb, rfl, rfl, hiC, hsC, hbC, hi1, hs1, his⟩ := hcut
  have HQ := keepJ (h.below hbC)
  have HiC := keepJ hiC
  have HsC := keepJ hsC
  obtain ⟨y0, y1, y2, y3, y4⟩ := id hiC.inst
  have hzi := hiC.lt
  have hzs := hsC.lt
  have hkb : kb < wc.heap.size := HQ.out.k.lt
  have hikb : ib ≠ kb := by omega
  have hskb : sb ≠ kb := by omega
  clear hiC hsC HP h
  go_wp2_with (first
   | (go_at_call 45; go_must (refine (goes_one (i := ⟨15, d, a, b, imm⟩) (show Hid _ from rfl) HF HL HO _).mono ?_); rintro e w1 ⟨rfl, hb1⟩; go_must (have HQ1 := keepJ (HQ.out.below hb1); have HL1 := keepJ (HsC.out.below hb1 hzs).oneR; obtain ⟨x0, x1, x2, x3, x4⟩ := Box.below HiC.out.inst hb1 hzi; have hz1 := hb1.size; clear y0 y1 y2 y3 y4))
   | ((with_reducible refine wpList_load_mid ?qa1 111 (.tmp 5) ?qb1 sb 0 ?qc1 (stC r s) _ HL1.out Tryz.underlying111 ?qd1 HSZ.out ?qe1); (case qa1 => rfl); (case qb1 => rfl); (case qc1 => rfl); (case qd1 => rfl))
   | (go_at_call 37; go_must (refine (qBc HQ1.out HN2 hn2 r HS8.out HM.out).mono ?_); rintro e w2 ⟨rfl, hg2, hq2, hm2⟩; go_must (have HQ2 := keepJ hq2; clear hg2 hq2 hm2))
   | fail)
  exact bodyPost_end (results_none rfl _ _ _) rfl ⟨rfl, HQ2.out⟩
 case first =>
  refine wp_region_held_drew (S := fun w' => w'.cell? ⟨qb, 1, none⟩ = some (.slice (some ⟨cb, co, none⟩) xs.length ccap) /\ w'.cell? ⟨qb, 3, none⟩ = some (.slice (some ⟨kb, 0, none⟩) xs.length xs.length) /\ w'.cell? ⟨cb, co + p * 5, none⟩ = some (.int .i64 15) /\ w'.cell? ⟨cb, co + p * 5 + 1, none⟩ = some (.int .i64 d) /\ w'.cell? ⟨cb, co + p * 5 + 2, none⟩ = some (.int .i64 a) /\ w'.cell? ⟨cb, co + p * 5 + 3, none⟩ = some (.int .i64 b) /\ w'.cell? ⟨cb, co + p * 5 + 4, none⟩ = some (.int .i64 imm) /\ StAt w' kb (p * 33) r s) (by kernel_rfl) (HP.out _ (Below.refl _ _).drew) (fun hHeld => ?_)
  refine wpAnyH_take (i := 0) (v := ?v14) rfl (by kernel_rfl) (by kernel_rfl) (by kernel_rfl) (fun _ _ _ h => h) (Or.inl ⟨by rfl, ?hy14⟩) (by assumption) ?rest14
  case hy14 => (intro wy hSw; (try dsimp only at hSw); go_simp; (first | done | with_reducible rfl))
  try simp only [Act.put, p1q, p2q, p3q, p4q, p5q, p6q]
  refine wpAnyH_take (i := 1) (v := ?v15) rfl (by kernel_rfl) (by kernel_rfl) (by kernel_rfl) (fun _ _ _ h => h) (Or.inl ⟨by rfl, ?hy15⟩) (by assumption) ?rest15
  case hy15 => (intro wy hSw; (try dsimp only at hSw); go_simp; (first | done | with_reducible rfl))
  try simp only [Act.put, p1q, p2q, p3q, p4q, p5q, p6q]
  refine wpAnyH_take (i := 2) (v := ?v16) rfl (by kernel_rfl) (by kernel_rfl) (by kernel_rfl) (fun _ _ _ h => h) (Or.inl ⟨by rfl, ?hy16⟩) (by assumption) ?rest16
  case hy16 => (intro wy hSw; (try dsimp only at hSw); go_simp; (first | done | with_reducible rfl))
  try simp only [Act.put, p1q, p2q, p3q, p4q, p5q, p6q]
  refine wpAnyH_take (i := 3) (v := ?v17) rfl (by kernel_rfl) (by kernel_rfl) (by kernel_rfl) (fun _ _ _ h => h) (Or.inl ⟨by rfl, ?hy17⟩) (by assumption) ?rest17
  case hy17 => (intro wy hSw; (try dsimp only at hSw); go_simp; (first | done | with_reducible rfl))
  try simp only [Act.put, p1q, p2q, p3q, p4q, p5q, p6q]
  refine wpAnyH_take (i := 4) (v := ?v18) rfl (by kernel_rfl) (by kernel_rfl) (by kernel_rfl) (fun _ _ _ h => h) (Or.inl ⟨by rfl, ?hy18⟩) (by assumption) ?rest18
  case hy18 => (intro wy hSw; (try dsimp only at hSw); go_simp; (first | done | with_reducible rfl))
  try simp only [Act.put, p1q, p2q, p3q, p4q, p5q, p6q]
  refine wpAnyH_take (i := 5) (v := ?v19) rfl (by kernel_rfl) (by kernel_rfl) (by kernel_rfl) (fun _ _ _ h => h) (Or.inl ⟨by rfl, ?hy19⟩) (by assumption) ?rest19
  case hy19 => (intro wy hSw; (try dsimp only at hSw); go_simp; (first | done | with_reducible rfl))
  try simp only [Act.put, p1q, p2q, p3q, p4q, p5q, p6q]
  refine wpAnyH_take (i := 6) (v := ?v20) rfl (by kernel_rfl) (by kernel_rfl) (by kernel_rfl) (fun _ _ _ h => h) (Or.inl ⟨by rfl, ?hy20⟩) (by assumption) ?rest20
  case hy20 => (intro wy hSw; (try dsimp only at hSw); go_simp; (first | done | with_reducible rfl))
  try simp only [Act.put, p1q, p2q, p3q, p4q, p5q, p6q]
  refine wpAnyH_take (i := 7) (v := ?v21) rfl (by kernel_rfl) (by kernel_rfl) (by kernel_rfl) (fun _ _ _ h => h) (Or.inl ⟨by rfl, ?hy21⟩) (by assumption) ?rest21
  case hy21 => (intro wy hSw; (try dsimp only at hSw); go_simp; (first | done | with_reducible rfl))
  try simp only [Act.put, p1q, p2q, p3q, p4q, p5q, p6q]
  refine wpAnyH_take (i := 8) (v := ?v22) rfl (by kernel_rfl) (by kernel_rfl) (by kernel_rfl) (fun _ _ _ h => h) (Or.inl ⟨by rfl, ?hy22⟩) (by assumption) ?rest22
  case hy22 => (intro wy hSw; (try dsimp only at hSw); go_simp; (first | done | with_reducible rfl))
  try simp only [Act.put, p1q, p2q, p3q, p4q, p5q, p6q]
  refine wpAnyH_take (i := 9) (v := ?v23) rfl (by kernel_rfl) (by kernel_rfl) (by kernel_rfl) (fun _ _ _ h => h) (Or.inl ⟨by rfl, ?hy23⟩) (by assumption) ?rest23
  case hy23 => (intro wy hSw; (try dsimp only at hSw); go_simp; (first | done | with_reducible rfl))
  try simp only [Act.put, p1q, p2q, p3q, p4q, p5q, p6q]
  refine wpAnyH_take (i := 10) (v := ?v24) rfl (by kernel_rfl) (by kernel_rfl) (by kernel_rfl) (fun _ _ _ h => h) (Or.inl ⟨by rfl, ?hy24⟩) (by assumption) ?rest24
  case hy24 => (intro wy hSw; (try dsimp only at hSw); go_simp; (first | done | with_reducible rfl))
  try simp only [Act.put, p1q, p2q, p3q, p4q, p5q, p6q]
  refine wpAnyH_take (i := 11) (v := ?v25) rfl (by kernel_rfl) (by kernel_rfl) (by kernel_rfl) (fun _ _ _ h => h) (Or.inl ⟨by rfl, ?hy25⟩) (by assumption) ?rest25
  case hy25 => (intro wy hSw; (try dsimp only at hSw); go_simp; (first | done | with_reducible rfl))
  try simp only [Act.put, p1q, p2q, p3q, p4q, p5q, p6q]
  refine wpAnyH_take (i := 12) (v := ?v26) rfl (by kernel_rfl) (by kernel_rfl) (by kernel_rfl) (fun _ _ _ h => h) (Or.inl ⟨by rfl, ?hy26⟩) (by assumption) ?rest26
  case hy26 => (intro wy hSw; (try dsimp only at hSw); go_simp; (first | done | with_reducible rfl))
  try simp only [Act.put, p1q, p2q, p3q, p4q, p5q, p6q]
  refine wpAnyH_take (i := 13) rfl (by kernel_rfl) (by kernel_rfl) (by kernel_rfl) (fun _ _ _ h => h) (yieldsIf_load_mid (by rfl) _ _ rfl _ _ rfl (stC r s) _ (fun w h => h.2.2.2.2.2.2.2) Tryz.underlying111 rfl (sizeJ h8)) (by assumption) ?_
  try simp only [Act.put, p1q, p2q, p3q, p4q, p5q, p6q]
  refine wpAnyH_ready (rs := [14, 15]) (by kernel_rfl) (by simp) ?_
  refine AllReadyH.cons rfl (fun KK hK => ?_) (AllReadyH.cons rfl (fun KK hK => ?_) AllReadyH.nil) <;> rw [if_pos (by rfl)]
  ·go_simp
   refine hK.out _ _ (HP.out _ ((Below.refl _ _).alloc (Nat.le_refl _) _).drew) (fun hHeld => ?_)
   clear hK KK
   try simp only [Act.put, p1q, p2q, p3q, p4q, p5q, p6q]
   refine wpAnyH_ready (rs := [15]) (by kernel_rfl) (by simp) ?_
   refine AllReadyH.cons rfl (fun KK hK => ?_) AllReadyH.nil
   rw [if_pos (by rfl)]
   go_simp
   obtain ⟨Y, HY, HiY, HsY, hbY, hzY⟩ : ∃ Y, Hid (Y = (w.alloc (Obj.cells #[.int .i64 0, .int .i64 0, .int .i64 0, .int .i64 0, .int .i64 0] 70)).alloc (Obj.cells #[.bool false, .int .i64 0, .int .u64 0, .int .u64 0, .int .i64 0, .int .i64 0, .int .u64 0, .int .u64 0, .int .i64 0, .int .i64 0, .int .u64 0, .int .u64 0, .int .i64 0, .int .i64 0, .int .u64 0, .int .u64 0, .int .i64 0, .int .i64 0, .int .u64 0, .int .u64 0, .int .i64 0, .int .i64 0, .int .u64 0, .int .u64 0, .int .i64 0, .int .i64 0, .int .u64 0, .int .u64 0, .int .i64 0, .int .i64 0, .int .u64 0, .int .u64 0, .int .i64 0] 111)) /\ Hid (Hp Y w.heap.size 70 (inC ⟨0, 0, 0, 0, 0⟩)) /\ Hid (Hp Y (w.heap.size + 1) 111 zeroC) /\ Below w.heap.size w Y /\ w.heap.size + 2 <= Y.heap.size := ⟨_, rfl, (Hp.new w (inC ⟨0, 0, 0, 0, 0⟩) _).alloc _, keepJ (by have := Hp.new (w.alloc (Obj.cells #[.int .i64 0, .int .i64 0, .int .i64 0, .int .i64 0, .int .i64 0] 70)) zeroC 111; simpa [zeroC] using this), by go_grown, by simp⟩
   rw [<- HY.out]
   clear HY
   refine hK.out _ _ (HP.out _ hbY.drew) (fun hHeld => ?_)
   clear hK KK
   try simp only [Act.put, p1q, p2q, p3q, p4q, p5q, p6q]
   have n0 : Y.cell? ⟨w.heap.size, 0, none⟩ = some (.int .i64 0) := HiY.out.cell rfl
   have f0 := HiY.out.frozen 0
   have n1 : Y.cell? ⟨w.heap.size, 1, none⟩ = some (.int .i64 0) := HiY.out.cell rfl
   have f1 := HiY.out.frozen 1
   have n2 : Y.cell? ⟨w.heap.size, 2, none⟩ = some (.int .i64 0) := HiY.out.cell rfl
   have f2 := HiY.out.frozen 2
   have n3 : Y.cell? ⟨w.heap.size, 3, none⟩ = some (.int .i64 0) := HiY.out.cell rfl
   have f3 := HiY.out.frozen 3
   have n4 : Y.cell? ⟨w.heap.size, 4, none⟩ = some (.int .i64 0) := HiY.out.cell rfl
   have f4 := HiY.out.frozen 4
   refine wpAnyH_ready (rs := [16]) (by kernel_rfl) (by simp) ?_
   refine AllReadyH.cons rfl (fun KK hK => ?_) AllReadyH.nil
   rw [if_pos (by rfl)]
   go_simp
   clear n0 n1 n2 n3 n4 f0 f1 f2 f3 f4
   obtain ⟨V, HV, HiV, HsV, hbV, hzV⟩ : ∃ V, Hid (V = (((((Y.setCell ⟨w.heap.size, 0, none⟩ (.int .i64 15)).setCell ⟨w.heap.size, 1, none⟩ (.int .i64 d)).setCell ⟨w.heap.size, 2, none⟩ (.int .i64 a)).setCell ⟨w.heap.size, 3, none⟩ (.int .i64 b)).setCell ⟨w.heap.size, 4, none⟩ (.int .i64 imm))) /\ Hid (Hp V w.heap.size 70 (inC ⟨15, d, a, b, imm⟩)) /\ Hid (Hp V (w.heap.size + 1) 111 zeroC) /\ Below w.heap.size w V /\ w.heap.size + 2 <= V.heap.size := ⟨_, rfl, HiY.out.sets (inC ⟨15, d, a, b, imm⟩) 0, HsY.out.fars (by omega) (inC ⟨15, d, a, b, imm⟩) 0, hbY.trans (qAc (qAa _ (inC ⟨15, d, a, b, imm⟩) Y 0) (by omega) hbY.size), Nat.le_trans hzY (qAa _ (inC ⟨15, d, a, b, imm⟩) Y 0).size⟩
   rw [<- HV.out]
   clear HV HiY HsY
   refine hK.out _ _ (HP.out _ hbV.drew) (fun hHeld => ?_)
   clear hK KK
   try simp only [Act.put, p1q, p2q, p3q, p4q, p5q, p6q]
   refine wpAnyH_ready (rs := [17]) (by kernel_rfl) (by simp) ?_
   refine AllReadyH.cons rfl (fun KK hK => ?_) AllReadyH.nil
   rw [if_pos (by rfl)]
   have HTH : V.drew.there (w.heap.size + 1) 0 (stC r s).toArray.size := by rw [qAu r h8]; exact HsV.out.drew.there (by rw [qAe]; omega)
   refine wp_store_mid _ _ _ rfl _ _ (List.toArray _) rfl rfl HTH (sizeJA h8) (qAz r s) ?_
   have hbU : Below w.heap.size w (V.drew.setCells (w.heap.size + 1) 0 (stC r s)) := (hbV.drew).trans (qAc (qAa _ _ _ _) (by omega) (show w.heap.size <= V.heap.size by omega))
   refine hK.out _ _ (HP.out _ hbU) (fun hHeld => ?_)
   clear hK KK
   try simp only [Act.put, p1q, p2q, p3q, p4q, p5q, p6q]
   refine wpAnyH_done (by kernel_rfl) ?_ _
   go_wp2
   go_meet
   case rel => exact ⟨w.heap.size, (w.heap.size + 1), rfl, rfl, HiV.out.drew.fars (by omega) _ _, HsV.out.drew.box qAe h8, hbU, by omega, by omega, by omega⟩
  ·go_simp
   refine hK.out _ _ (HP.out _ ((Below.refl _ _).alloc (Nat.le_refl _) _).drew) (fun hHeld => ?_)
   clear hK KK
   try simp only [Act.put, p1q, p2q, p3q, p4q, p5q, p6q]
   refine wpAnyH_ready (rs := [14]) (by kernel_rfl) (by simp) ?_
   refine AllReadyH.cons rfl (fun KK hK => ?_) AllReadyH.nil
   rw [if_pos (by rfl)]
   go_simp
   obtain ⟨Y, HY, HiY, HsY, hbY, hzY⟩ : ∃ Y, Hid (Y = (w.alloc (Obj.cells #[.bool false, .int .i64 0, .int .u64 0, .int .u64 0, .int .i64 0, .int .i64 0, .int .u64 0, .int .u64 0, .int .i64 0, .int .i64 0, .int .u64 0, .int .u64 0, .int .i64 0, .int .i64 0, .int .u64 0, .int .u64 0, .int .i64 0, .int .i64 0, .int .u64 0, .int .u64 0, .int .i64 0, .int .i64 0, .int .u64 0, .int .u64 0, .int .i64 0, .int .i64 0, .int .u64 0, .int .u64 0, .int .i64 0, .int .i64 0, .int .u64 0, .int .u64 0, .int .i64 0] 111)).alloc (Obj.cells #[.int .i64 0, .int .i64 0, .int .i64 0, .int .i64 0, .int .i64 0] 70)) /\ Hid (Hp Y (w.heap.size + 1) 70 (inC ⟨0, 0, 0, 0, 0⟩)) /\ Hid (Hp Y w.heap.size 111 zeroC) /\ Below w.heap.size w Y /\ w.heap.size + 2 <= Y.heap.size := ⟨_, rfl, keepJ (by have := Hp.new (w.alloc (Obj.cells #[.bool false, .int .i64 0, .int .u64 0, .int .u64 0, .int .i64 0, .int .i64 0, .int .u64 0, .int .u64 0, .int .i64 0, .int .i64 0, .int .u64 0, .int .u64 0, .int .i64 0, .int .i64 0, .int .u64 0, .int .u64 0, .int .i64 0, .int .i64 0, .int .u64 0, .int .u64 0, .int .i64 0, .int .i64 0, .int .u64 0, .int .u64 0, .int .i64 0, .int .i64 0, .int .u64 0, .int .u64 0, .int .i64 0, .int .i64 0, .int .u64 0, .int .u64 0, .int .i64 0] 111)) (inC ⟨0, 0, 0, 0, 0⟩) 70; simpa [inC] using this), (Hp.new w zeroC _).alloc _, by go_grown, by simp⟩
   rw [<- HY.out]
   clear HY
   refine hK.out _ _ (HP.out _ hbY.drew) (fun hHeld => ?_)
   clear hK KK
   try simp only [Act.put, p1q, p2q, p3q, p4q, p5q, p6q]
   have n0 : Y.cell? ⟨(w.heap.size + 1), 0, none⟩ = some (.int .i64 0) := HiY.out.cell rfl
   have f0 := HiY.out.frozen 0
   have n1 : Y.cell? ⟨(w.heap.size + 1), 1, none⟩ = some (.int .i64 0) := HiY.out.cell rfl
   have f1 := HiY.out.frozen 1
   have n2 : Y.cell? ⟨(w.heap.size + 1), 2, none⟩ = some (.int .i64 0) := HiY.out.cell rfl
   have f2 := HiY.out.frozen 2
   have n3 : Y.cell? ⟨(w.heap.size + 1), 3, none⟩ = some (.int .i64 0) := HiY.out.cell rfl
   have f3 := HiY.out.frozen 3
   have n4 : Y.cell? ⟨(w.heap.size + 1), 4, none⟩ = some (.int .i64 0) := HiY.out.cell rfl
   have f4 := HiY.out.frozen 4
   refine wpAnyH_ready (rs := [16]) (by kernel_rfl) (by simp) ?_
   refine AllReadyH.cons rfl (fun KK hK => ?_) AllReadyH.nil
   rw [if_pos (by rfl)]
   go_simp
   clear n0 n1 n2 n3 n4 f0 f1 f2 f3 f4
   obtain ⟨V, HV, HiV, HsV, hbV, hzV⟩ : ∃ V, Hid (V = (((((Y.setCell ⟨(w.heap.size + 1), 0, none⟩ (.int .i64 15)).setCell ⟨(w.heap.size + 1), 1, none⟩ (.int .i64 d)).setCell ⟨(w.heap.size + 1), 2, none⟩ (.int .i64 a)).setCell ⟨(w.heap.size + 1), 3, none⟩ (.int .i64 b)).setCell ⟨(w.heap.size + 1), 4, none⟩ (.int .i64 imm))) /\ Hid (Hp V (w.heap.size + 1) 70 (inC ⟨15, d, a, b, imm⟩)) /\ Hid (Hp V w.heap.size 111 zeroC) /\ Below w.heap.size w V /\ w.heap.size + 2 <= V.heap.size := ⟨_, rfl, HiY.out.sets (inC ⟨15, d, a, b, imm⟩) 0, HsY.out.fars (by omega) (inC ⟨15, d, a, b, imm⟩) 0, hbY.trans (qAc (qAa _ (inC ⟨15, d, a, b, imm⟩) Y 0) (by omega) hbY.size), Nat.le_trans hzY (qAa _ (inC ⟨15, d, a, b, imm⟩) Y 0).size⟩
   rw [<- HV.out]
   clear HV HiY HsY
   refine hK.out _ _ (HP.out _ hbV.drew) (fun hHeld => ?_)
   clear hK KK
   try simp only [Act.put, p1q, p2q, p3q, p4q, p5q, p6q]
   refine wpAnyH_ready (rs := [17]) (by kernel_rfl) (by simp) ?_
   refine AllReadyH.cons rfl (fun KK hK => ?_) AllReadyH.nil
   rw [if_pos (by rfl)]
   have HTH : V.drew.there w.heap.size 0 (stC r s).toArray.size := by rw [qAu r h8]; exact HsV.out.drew.there (by rw [qAe]; omega)
   refine wp_store_mid _ _ _ rfl _ _ (List.toArray _) rfl rfl HTH (sizeJA h8) (qAz r s) ?_
   have hbU : Below w.heap.size w (V.drew.setCells w.heap.size 0 (stC r s)) := (hbV.drew).trans (qAc (qAa _ _ _ _) (by omega) (show w.heap.size <= V.heap.size by omega))
   refine hK.out _ _ (HP.out _ hbU) (fun hHeld => ?_)
   clear hK KK
   try simp only [Act.put, p1q, p2q, p3q, p4q, p5q, p6q]
   refine wpAnyH_done (by kernel_rfl) ?_ _
   go_wp2
   go_meet
   case rel => exact ⟨(w.heap.size + 1), w.heap.size, rfl, rfl, HiV.out.drew.fars (by omega) _ _, HsV.out.drew.box qAe h8, hbU, by omega, by omega, by omega⟩
set_option maxHeartbeats 3200000 in
theorem lleave_on (w0 w : World) (qb kb nm cb co ccap p : Nat) (vl : Value) (xs : List In) (ls : List Lp) (K : Kn) (h : Inq w0 w qb kb nm vl cb co ccap xs ls K) (hp : p < xs.length) (h64 : xs.length <= 64) (hM : MadeK nm K) (op d a b imm : Int) (HI : Hid (nth xs p = ⟨op, d, a, b, imm⟩)) (r : Bool) (s : St) (HK : Hid (K.getD p kn0 = (r, s))) (f : Int) (l o : Bool) (HF : Hid (f = In.far ⟨op, d, a, b, imm⟩)) (HL : Hid (l = In.leads ⟨op, d, a, b, imm⟩)) (HO : Hid (o = In.on ⟨op, d, a, b, imm⟩)) (hop : op ≠ 22 /\ op ≠ 15 /\ ¬ (16 <= op /\ op <= 19)) (HR : Hid (In.right ⟨op, d, a, b, imm⟩ = true)) (hn1 : p + 1 < xs.length) (s' : St) (HW : Hid (wrS ⟨op, d, a, b, imm⟩ s = s')) (HS3 : Hid (Made8 nm s')) : Calls Tryz.prog 40 #[.pointer (some ⟨qb, 0, none⟩), .int .i64 p] w fun e w' => e = .returned (.tuple #[]) /\ Inq w0 w' qb kb nm vl cb co ccap xs ls (arrK K (p + 1) r s') := by
 obtain ⟨hat, hcb, hN, hcc⟩ := h.at hp
 rw [HI.out] at hat
 obtain ⟨c0, c1, c2, c3, c4⟩ := hat
 simp only at c0 c1 c2 c3 c4
 have hpI : (p : Int) < xs.length := by omega
 have h8 : s.length = 8 := by have := h.e8.at p; rw [HK.out] at this; exact this
 have hst : StAt w kb (p * 33) r s := h.k.state h.e8 (by rw [h.len]; exact hp) HK.out
 have hqz := h.q.lt
 have hkz := h.k.lt
 have hbz := h.b0.size
 have HP : Hid (∀ w', Below w.heap.size w w' -> w'.cell? ⟨qb, 1, none⟩ = some (.slice (some ⟨cb, co, none⟩) xs.length ccap) /\ w'.cell? ⟨qb, 3, none⟩ = some (.slice (some ⟨kb, 0, none⟩) xs.length xs.length) /\ w'.cell? ⟨cb, co + p * 5, none⟩ = some (.int .i64 op) /\ w'.cell? ⟨cb, co + p * 5 + 1, none⟩ = some (.int .i64 d) /\ w'.cell? ⟨cb, co + p * 5 + 2, none⟩ = some (.int .i64 a) /\ w'.cell? ⟨cb, co + p * 5 + 3, none⟩ = some (.int .i64 b) /\ w'.cell? ⟨cb, co + p * 5 + 4, none⟩ = some (.int .i64 imm) /\ StAt w' kb (p * 33) r s) := fun w' hb' => by
  have hA := At.below (i := ⟨op, d, a, b, imm⟩) ⟨c0, c1, c2, c3, c4⟩ hb' (by omega)
  exact ⟨(h.q.below hb' hqz).cell rfl, (h.q.below hb' hqz).cell rfl, hA.1, hA.2.1, hA.2.2.1, hA.2.2.2.1, hA.2.2.2.2, hst.below hb' hkz⟩
 clear c0 c1 c2 c3 c4 hst
 have hs8 : Made8 nm s := by have := hM.at p; rw [HK.out] at this; exact this
 have HM := keepJ hM
 have HS8 := keepJ hs8
 have HSZ := keepJ (sizeJ (r := r) h8)
 have hp64 : (p : Int) < 64 := by omega
 have HN1 : Hid ((p : Int) + 1 = ((p + 1 : Nat) : Int)) := by show _ = _; omega
 have o1 : ¬ op = 22 := hop.1
 have o2 : ¬ op = 15 := hop.2.1
 have o3 : ¬ op = 16 := by omega
 have o4 : ¬ op = 17 := by omega
 have o5 : ¬ op = 18 := by omega
 have o6 : ¬ op = 19 := by omega
 clear hop
 clear hs8 hM
 go_enter Tryz.func40, Tryz.ntmps40
 go_wp2_with (fail)
 go_cut [4, 5] from 9 (fun v4 v5 wc => Taken2 w wc ⟨op, d, a, b, imm⟩ r s v4 v5)
 case rest =>
  obtain ⟨ib, sb, rfl, rfl, hiC, hsC, hbC, hi1, hs1, his⟩ := hcut
  have HQ := keepJ (h.below hbC)
  have HiC := keepJ hiC
  have HsC := keepJ hsC
  obtain ⟨y0, y1, y2, y3, y4⟩ := id hiC.inst
  have hzi := hiC.lt
  have hzs := hsC.lt
  have hkb : kb < wc.heap.size := HQ.out.k.lt
  have hikb : ib ≠ kb := by omega
  have hskb : sb ≠ kb := by omega
  clear hiC hsC HP h
  go_wp2_with (first
   | (go_at_call 45; go_must (refine (goes_one (i := ⟨op, d, a, b, imm⟩) (show Hid _ from rfl) HF HL HO _).mono ?_); rintro e w1 ⟨rfl, hb1⟩; go_must (have HQ1 := keepJ (HQ.out.below hb1); have HL1 := keepJ (HsC.out.below hb1 hzs).oneR; obtain ⟨x0, x1, x2, x3, x4⟩ := Box.below HiC.out.inst hb1 hzi; have hz1 := hb1.size; clear y0 y1 y2 y3 y4))
   | ((with_reducible refine wpList_load_mid ?qa1 111 (.tmp 5) ?qb1 sb 0 ?qc1 (stC r s) _ HL1.out Tryz.underlying111 ?qd1 HSZ.out ?qe1); (case qa1 => rfl); (case qb1 => rfl); (case qc1 => rfl); (case qd1 => rfl))
   | (go_at_call 68; go_must (refine (lwritten_as (i := ⟨op, d, a, b, imm⟩) r w1 HW HS8.out HR.out).mono ?_); rintro e w2 ⟨rfl, hb2⟩; go_must (have HQ2 := keepJ (HQ1.out.below hb2); clear hb2))
   | (go_at_call 37; go_must (refine (qBc HQ2.out HN1 hn1 r HS3.out HM.out).mono ?_); rintro e w3 ⟨rfl, hg3, hq3, hm3⟩; go_must (have HQ3 := keepJ hq3; clear hg3 hq3 hm3))
   | fail)
  exact bodyPost_end (results_none rfl _ _ _) rfl ⟨rfl, HQ3.out⟩
 case first =>
  refine wp_region_held_drew (S := fun w' => w'.cell? ⟨qb, 1, none⟩ = some (.slice (some ⟨cb, co, none⟩) xs.length ccap) /\ w'.cell? ⟨qb, 3, none⟩ = some (.slice (some ⟨kb, 0, none⟩) xs.length xs.length) /\ w'.cell? ⟨cb, co + p * 5, none⟩ = some (.int .i64 op) /\ w'.cell? ⟨cb, co + p * 5 + 1, none⟩ = some (.int .i64 d) /\ w'.cell? ⟨cb, co + p * 5 + 2, none⟩ = some (.int .i64 a) /\ w'.cell? ⟨cb, co + p * 5 + 3, none⟩ = some (.int .i64 b) /\ w'.cell? ⟨cb, co + p * 5 + 4, none⟩ = some (.int .i64 imm) /\ StAt w' kb (p * 33) r s) (by kernel_rfl) (HP.out _ (Below.refl _ _).drew) (fun hHeld => ?_)
  refine wpAnyH_take (i := 0) (v := ?v27) rfl (by kernel_rfl) (by kernel_rfl) (by kernel_rfl) (fun _ _ _ h => h) (Or.inl ⟨by rfl, ?hy27⟩) (by assumption) ?rest27
  case hy27 => (intro wy hSw; (try dsimp only at hSw); go_simp; (first | done | with_reducible rfl))
  try simp only [Act.put, p1q, p2q, p3q, p4q, p5q, p6q]
  refine wpAnyH_take (i := 1) (v := ?v28) rfl (by kernel_rfl) (by kernel_rfl) (by kernel_rfl) (fun _ _ _ h => h) (Or.inl ⟨by rfl, ?hy28⟩) (by assumption) ?rest28
  case hy28 => (intro wy hSw; (try dsimp only at hSw); go_simp; (first | done | with_reducible rfl))
  try simp only [Act.put, p1q, p2q, p3q, p4q, p5q, p6q]
  refine wpAnyH_take (i := 2) (v := ?v29) rfl (by kernel_rfl) (by kernel_rfl) (by kernel_rfl) (fun _ _ _ h => h) (Or.inl ⟨by rfl, ?hy29⟩) (by assumption) ?rest29
  case hy29 => (intro wy hSw; (try dsimp only at hSw); go_simp; (first | done | with_reducible rfl))
  try simp only [Act.put, p1q, p2q, p3q, p4q, p5q, p6q]
  refine wpAnyH_take (i := 3) (v := ?v30) rfl (by kernel_rfl) (by kernel_rfl) (by kernel_rfl) (fun _ _ _ h => h) (Or.inl ⟨by rfl, ?hy30⟩) (by assumption) ?rest30
  case hy30 => (intro wy hSw; (try dsimp only at hSw); go_simp; (first | done | with_reducible rfl))
  try simp only [Act.put, p1q, p2q, p3q, p4q, p5q, p6q]
  refine wpAnyH_take (i := 4) (v := ?v31) rfl (by kernel_rfl) (by kernel_rfl) (by kernel_rfl) (fun _ _ _ h => h) (Or.inl ⟨by rfl, ?hy31⟩) (by assumption) ?rest31
  case hy31 => (intro wy hSw; (try dsimp only at hSw); go_simp; (first | done | with_reducible rfl))
  try simp only [Act.put, p1q, p2q, p3q, p4q, p5q, p6q]
  refine wpAnyH_take (i := 5) (v := ?v32) rfl (by kernel_rfl) (by kernel_rfl) (by kernel_rfl) (fun _ _ _ h => h) (Or.inl ⟨by rfl, ?hy32⟩) (by assumption) ?rest32
  case hy32 => (intro wy hSw; (try dsimp only at hSw); go_simp; (first | done | with_reducible rfl))
  try simp only [Act.put, p1q, p2q, p3q, p4q, p5q, p6q]
  refine wpAnyH_take (i := 6) (v := ?v33) rfl (by kernel_rfl) (by kernel_rfl) (by kernel_rfl) (fun _ _ _ h => h) (Or.inl ⟨by rfl, ?hy33⟩) (by assumption) ?rest33
  case hy33 => (intro wy hSw; (try dsimp only at hSw); go_simp; (first | done | with_reducible rfl))
  try simp only [Act.put, p1q, p2q, p3q, p4q, p5q, p6q]
  refine wpAnyH_take (i := 7) (v := ?v34) rfl (by kernel_rfl) (by kernel_rfl) (by kernel_rfl) (fun _ _ _ h => h) (Or.inl ⟨by rfl, ?hy34⟩) (by assumption) ?rest34
  case hy34 => (intro wy hSw; (try dsimp only at hSw); go_simp; (first | done | with_reducible rfl))
  try simp only [Act.put, p1q, p2q, p3q, p4q, p5q, p6q]
  refine wpAnyH_take (i := 8) (v := ?v35) rfl (by kernel_rfl) (by kernel_rfl) (by kernel_rfl) (fun _ _ _ h => h) (Or.inl ⟨by rfl, ?hy35⟩) (by assumption) ?rest35
  case hy35 => (intro wy hSw; (try dsimp only at hSw); go_simp; (first | done | with_reducible rfl))
  try simp only [Act.put, p1q, p2q, p3q, p4q, p5q, p6q]
  refine wpAnyH_take (i := 9) (v := ?v36) rfl (by kernel_rfl) (by kernel_rfl) (by kernel_rfl) (fun _ _ _ h => h) (Or.inl ⟨by rfl, ?hy36⟩) (by assumption) ?rest36
  case hy36 => (intro wy hSw; (try dsimp only at hSw); go_simp; (first | done | with_reducible rfl))
  try simp only [Act.put, p1q, p2q, p3q, p4q, p5q, p6q]
  refine wpAnyH_take (i := 10) (v := ?v37) rfl (by kernel_rfl) (by kernel_rfl) (by kernel_rfl) (fun _ _ _ h => h) (Or.inl ⟨by rfl, ?hy37⟩) (by assumption) ?rest37
  case hy37 => (intro wy hSw; (try dsimp only at hSw); go_simp; (first | done | with_reducible rfl))
  try simp only [Act.put, p1q, p2q, p3q, p4q, p5q, p6q]
  refine wpAnyH_take (i := 11) (v := ?v38) rfl (by kernel_rfl) (by kernel_rfl) (by kernel_rfl) (fun _ _ _ h => h) (Or.inl ⟨by rfl, ?hy38⟩) (by assumption) ?rest38
  case hy38 => (intro wy hSw; (try dsimp only at hSw); go_simp; (first | done | with_reducible rfl))
  try simp only [Act.put, p1q, p2q, p3q, p4q, p5q, p6q]
  refine wpAnyH_take (i := 12) (v := ?v39) rfl (by kernel_rfl) (by kernel_rfl) (by kernel_rfl) (fun _ _ _ h => h) (Or.inl ⟨by rfl, ?hy39⟩) (by assumption) ?rest39
  case hy39 => (intro wy hSw; (try dsimp only at hSw); go_simp; (first | done | with_reducible rfl))
  try simp only [Act.put, p1q, p2q, p3q, p4q, p5q, p6q]
  refine wpAnyH_take (i := 13) rfl (by kernel_rfl) (by kernel_rfl) (by kernel_rfl) (fun _ _ _ h => h) (yieldsIf_load_mid (by rfl) _ _ rfl _ _ rfl (stC r s) _ (fun w h => h.2.2.2.2.2.2.2) Tryz.underlying111 rfl (sizeJ h8)) (by assumption) ?_
  try simp only [Act.put, p1q, p2q, p3q, p4q, p5q, p6q]
  refine wpAnyH_ready (rs := [14, 15]) (by kernel_rfl) (by simp) ?_
  refine AllReadyH.cons rfl (fun KK hK => ?_) (AllReadyH.cons rfl (fun KK hK => ?_) AllReadyH.nil) <;> rw [if_pos (by rfl)]
  ·go_simp
   refine hK.out _ _ (HP.out _ ((Below.refl _ _).alloc (Nat.le_refl _) _).drew) (fun hHeld => ?_)
   clear hK KK
   try simp only [Act.put, p1q, p2q, p3q, p4q, p5q, p6q]
   refine wpAnyH_ready (rs := [15]) (by kernel_rfl) (by simp) ?_
   refine AllReadyH.cons rfl (fun KK hK => ?_) AllReadyH.nil
   rw [if_pos (by rfl)]
   go_simp
   obtain ⟨Y, HY, HiY, HsY, hbY, hzY⟩ : ∃ Y, Hid (Y = (w.alloc (Obj.cells #[.int .i64 0, .int .i64 0, .int .i64 0, .int .i64 0, .int .i64 0] 70)).alloc (Obj.cells #[.bool false, .int .i64 0, .int .u64 0, .int .u64 0, .int .i64 0, .int .i64 0, .int .u64 0, .int .u64 0, .int .i64 0, .int .i64 0, .int .u64 0, .int .u64 0, .int .i64 0, .int .i64 0, .int .u64 0, .int .u64 0, .int .i64 0, .int .i64 0, .int .u64 0, .int .u64 0, .int .i64 0, .int .i64 0, .int .u64 0, .int .u64 0, .int .i64 0, .int .i64 0, .int .u64 0, .int .u64 0, .int .i64 0, .int .i64 0, .int .u64 0, .int .u64 0, .int .i64 0] 111)) /\ Hid (Hp Y w.heap.size 70 (inC ⟨0, 0, 0, 0, 0⟩)) /\ Hid (Hp Y (w.heap.size + 1) 111 zeroC) /\ Below w.heap.size w Y /\ w.heap.size + 2 <= Y.heap.size := ⟨_, rfl, (Hp.new w (inC ⟨0, 0, 0, 0, 0⟩) _).alloc _, keepJ (by have := Hp.new (w.alloc (Obj.cells #[.int .i64 0, .int .i64 0, .int .i64 0, .int .i64 0, .int .i64 0] 70)) zeroC 111; simpa [zeroC] using this), by go_grown, by simp⟩
   rw [<- HY.out]
   clear HY
   refine hK.out _ _ (HP.out _ hbY.drew) (fun hHeld => ?_)
   clear hK KK
   try simp only [Act.put, p1q, p2q, p3q, p4q, p5q, p6q]
   have n0 : Y.cell? ⟨w.heap.size, 0, none⟩ = some (.int .i64 0) := HiY.out.cell rfl
   have f0 := HiY.out.frozen 0
   have n1 : Y.cell? ⟨w.heap.size, 1, none⟩ = some (.int .i64 0) := HiY.out.cell rfl
   have f1 := HiY.out.frozen 1
   have n2 : Y.cell? ⟨w.heap.size, 2, none⟩ = some (.int .i64 0) := HiY.out.cell rfl
   have f2 := HiY.out.frozen 2
   have n3 : Y.cell? ⟨w.heap.size, 3, none⟩ = some (.int .i64 0) := HiY.out.cell rfl
   have f3 := HiY.out.frozen 3
   have n4 : Y.cell? ⟨w.heap.size, 4, none⟩ = some (.int .i64 0) := HiY.out.cell rfl
   have f4 := HiY.out.frozen 4
   refine wpAnyH_ready (rs := [16]) (by kernel_rfl) (by simp) ?_
   refine AllReadyH.cons rfl (fun KK hK => ?_) AllReadyH.nil
   rw [if_pos (by rfl)]
   go_simp
   clear n0 n1 n2 n3 n4 f0 f1 f2 f3 f4
   obtain ⟨V, HV, HiV, HsV, hbV, hzV⟩ : ∃ V, Hid (V = (((((Y.setCell ⟨w.heap.size, 0, none⟩ (.int .i64 op)).setCell ⟨w.heap.size, 1, none⟩ (.int .i64 d)).setCell ⟨w.heap.size, 2, none⟩ (.int .i64 a)).setCell ⟨w.heap.size, 3, none⟩ (.int .i64 b)).setCell ⟨w.heap.size, 4, none⟩ (.int .i64 imm))) /\ Hid (Hp V w.heap.size 70 (inC ⟨op, d, a, b, imm⟩)) /\ Hid (Hp V (w.heap.size + 1) 111 zeroC) /\ Below w.heap.size w V /\ w.heap.size + 2 <= V.heap.size := ⟨_, rfl, HiY.out.sets (inC ⟨op, d, a, b, imm⟩) 0, HsY.out.fars (by omega) (inC ⟨op, d, a, b, imm⟩) 0, hbY.trans (qAc (qAa _ (inC ⟨op, d, a, b, imm⟩) Y 0) (by omega) hbY.size), Nat.le_trans hzY (qAa _ (inC ⟨op, d, a, b, imm⟩) Y 0).size⟩
   rw [<- HV.out]
   clear HV HiY HsY
   refine hK.out _ _ (HP.out _ hbV.drew) (fun hHeld => ?_)
   clear hK KK
   try simp only [Act.put, p1q, p2q, p3q, p4q, p5q, p6q]
   refine wpAnyH_ready (rs := [17]) (by kernel_rfl) (by simp) ?_
   refine AllReadyH.cons rfl (fun KK hK => ?_) AllReadyH.nil
   rw [if_pos (by rfl)]
   have HTH : V.drew.there (w.heap.size + 1) 0 (stC r s).toArray.size := by rw [qAu r h8]; exact HsV.out.drew.there (by rw [qAe]; omega)
   refine wp_store_mid _ _ _ rfl _ _ (List.toArray _) rfl rfl HTH (sizeJA h8) (qAz r s) ?_
   have hbU : Below w.heap.size w (V.drew.setCells (w.heap.size + 1) 0 (stC r s)) := (hbV.drew).trans (qAc (qAa _ _ _ _) (by omega) (show w.heap.size <= V.heap.size by omega))
   refine hK.out _ _ (HP.out _ hbU) (fun hHeld => ?_)
   clear hK KK
   try simp only [Act.put, p1q, p2q, p3q, p4q, p5q, p6q]
   refine wpAnyH_done (by kernel_rfl) ?_ _
   go_wp2
   go_meet
   case rel => exact ⟨w.heap.size, (w.heap.size + 1), rfl, rfl, HiV.out.drew.fars (by omega) _ _, HsV.out.drew.box qAe h8, hbU, by omega, by omega, by omega⟩
  ·go_simp
   refine hK.out _ _ (HP.out _ ((Below.refl _ _).alloc (Nat.le_refl _) _).drew) (fun hHeld => ?_)
   clear hK KK
   try simp only [Act.put, p1q, p2q, p3q, p4q, p5q, p6q]
   refine wpAnyH_ready (rs := [14]) (by kernel_rfl) (by simp) ?_
   refine AllReadyH.cons rfl (fun KK hK => ?_) AllReadyH.nil
   rw [if_pos (by rfl)]
   go_simp
   obtain ⟨Y, HY, HiY, HsY, hbY, hzY⟩ : ∃ Y, Hid (Y = (w.alloc (Obj.cells #[.bool false, .int .i64 0, .int .u64 0, .int .u64 0, .int .i64 0, .int .i64 0, .int .u64 0, .int .u64 0, .int .i64 0, .int .i64 0, .int .u64 0, .int .u64 0, .int .i64 0, .int .i64 0, .int .u64 0, .int .u64 0, .int .i64 0, .int .i64 0, .int .u64 0, .int .u64 0, .int .i64 0, .int .i64 0, .int .u64 0, .int .u64 0, .int .i64 0, .int .i64 0, .int .u64 0, .int .u64 0, .int .i64 0, .int .i64 0, .int .u64 0, .int .u64 0, .int .i64 0] 111)).alloc (Obj.cells #[.int .i64 0, .int .i64 0, .int .i64 0, .int .i64 0, .int .i64 0] 70)) /\ Hid (Hp Y (w.heap.size + 1) 70 (inC ⟨0, 0, 0, 0, 0⟩)) /\ Hid (Hp Y w.heap.size 111 zeroC) /\ Below w.heap.size w Y /\ w.heap.size + 2 <= Y.heap.size := ⟨_, rfl, keepJ (by have := Hp.new (w.alloc (Obj.cells #[.bool false, .int .i64 0, .int .u64 0, .int .u64 0, .int .i64 0, .int .i64 0, .int .u64 0, .int .u64 0, .int .i64 0, .int .i64 0, .int .u64 0, .int .u64 0, .int .i64 0, .int .i64 0, .int .u64 0, .int .u64 0, .int .i64 0, .int .i64 0, .int .u64 0, .int .u64 0, .int .i64 0, .int .i64 0, .int .u64 0, .int .u64 0, .int .i64 0, .int .i64 0, .int .u64 0, .int .u64 0, .int .i64 0, .int .i64 0, .int .u64 0, .int .u64 0, .int .i64 0] 111)) (inC ⟨0, 0, 0, 0, 0⟩) 70; simpa [inC] using this), (Hp.new w zeroC _).alloc _, by go_grown, by simp⟩
   rw [<- HY.out]
   clear HY
   refine hK.out _ _ (HP.out _ hbY.drew) (fun hHeld => ?_)
   clear hK KK
   try simp only [Act.put, p1q, p2q, p3q, p4q, p5q, p6q]
   have n0 : Y.cell? ⟨(w.heap.size + 1), 0, none⟩ = some (.int .i64 0) := HiY.out.cell rfl
   have f0 := HiY.out.frozen 0
   have n1 : Y.cell? ⟨(w.heap.size + 1), 1, none⟩ = some (.int .i64 0) := HiY.out.cell rfl
   have f1 := HiY.out.frozen 1
   have n2 : Y.cell? ⟨(w.heap.size + 1), 2, none⟩ = some (.int .i64 0) := HiY.out.cell rfl
   have f2 := HiY.out.frozen 2
   have n3 : Y.cell? ⟨(w.heap.size + 1), 3, none⟩ = some (.int .i64 0) := HiY.out.cell rfl
   have f3 := HiY.out.frozen 3
   have n4 : Y.cell? ⟨(w.heap.size + 1), 4, none⟩ = some (.int .i64 0) := HiY.out.cell rfl
   have f4 := HiY.out.frozen 4
   refine wpAnyH_ready (rs := [16]) (by kernel_rfl) (by simp) ?_
   refine AllReadyH.cons rfl (fun KK hK => ?_) AllReadyH.nil
   rw [if_pos (by rfl)]
   go_simp
   clear n0 n1 n2 n3 n4 f0 f1 f2 f3 f4
   obtain ⟨V, HV, HiV, HsV, hbV, hzV⟩ : ∃ V, Hid (V = (((((Y.setCell ⟨(w.heap.size + 1), 0, none⟩ (.int .i64 op)).setCell ⟨(w.heap.size + 1), 1, none⟩ (.int .i64 d)).setCell ⟨(w.heap.size + 1), 2, none⟩ (.int .i64 a)).setCell ⟨(w.heap.size + 1), 3, none⟩ (.int .i64 b)).setCell ⟨(w.heap.size + 1), 4, none⟩ (.int .i64 imm))) /\ Hid (Hp V (w.heap.size + 1) 70 (inC ⟨op, d, a, b, imm⟩)) /\ Hid (Hp V w.heap.size 111 zeroC) /\ Below w.heap.size w V /\ w.heap.size + 2 <= V.heap.size := ⟨_, rfl, HiY.out.sets (inC ⟨op, d, a, b, imm⟩) 0, HsY.out.fars (by omega) (inC ⟨op, d, a, b, imm⟩) 0, hbY.trans (qAc (qAa _ (inC ⟨op, d, a, b, imm⟩) Y 0) (by omega) hbY.size), Nat.le_trans hzY (qAa _ (inC ⟨op, d, a, b, imm⟩) Y 0).size⟩
   rw [<- HV.out]
   clear HV HiY HsY
   refine hK.out _ _ (HP.out _ hbV.drew) (fun hHeld => ?_)
   clear hK KK
   try simp only [Act.put, p1q, p2q, p3q, p4q, p5q, p6q]
   refine wpAnyH_ready (rs := [17]) (by kernel_rfl) (by simp) ?_
   refine AllReadyH.cons rfl (fun KK hK => ?_) AllReadyH.nil
   rw [if_pos (by rfl)]
   have HTH : V.drew.there w.heap.size 0 (stC r s).toArray.size := by rw [qAu r h8]; exact HsV.out.drew.there (by rw [qAe]; omega)
   refine wp_store_mid _ _ _ rfl _ _ (List.toArray _) rfl rfl HTH (sizeJA h8) (qAz r s) ?_
   have hbU : Below w.heap.size w (V.drew.setCells w.heap.size 0 (stC r s)) := (hbV.drew).trans (qAc (qAa _ _ _ _) (by omega) (show w.heap.size <= V.heap.size by omega))
   refine hK.out _ _ (HP.out _ hbU) (fun hHeld => ?_)
   clear hK KK
   try simp only [Act.put, p1q, p2q, p3q, p4q, p5q, p6q]
   refine wpAnyH_done (by kernel_rfl) ?_ _
   go_wp2
   go_meet
   case rel => exact ⟨(w.heap.size + 1), w.heap.size, rfl, rfl, HiV.out.drew.fars (by omega) _ _, HsV.out.drew.box qAe h8, hbU, by omega, by omega, by omega⟩
set_option maxHeartbeats 3200000 in
theorem lleave_if16 (w0 w : World) (qb kb nm cb co ccap p : Nat) (vl : Value) (xs : List In) (ls : List Lp) (K : Kn) (h : Inq w0 w qb kb nm vl cb co ccap xs ls K) (hp : p < xs.length) (h64 : xs.length <= 64) (hM : MadeK nm K) (d a b imm : Int) (HI : Hid (nth xs p = ⟨16, d, a, b, imm⟩)) (r : Bool) (s : St) (HK : Hid (K.getD p kn0 = (r, s))) (f : Int) (l o : Bool) (HF : Hid (f = In.far ⟨16, d, a, b, imm⟩)) (HL : Hid (l = In.leads ⟨16, d, a, b, imm⟩)) (HO : Hid (o = In.on ⟨16, d, a, b, imm⟩)) (n2 : Nat) (hn2 : n2 < xs.length) (HN2 : Hid ((p : Int) + f = n2)) (hf : 0 <= f /\ f <= 64) (hn1 : p + 1 < xs.length) (HA : Hid (0 <= a /\ a <= 7)) (HB : Hid (b = 8 ∨ (0 <= b /\ b <= 7))) (r1 r2 : Bool) (s1 s2 : St) (HW1 : Hid (refS ⟨16, d, a, b, imm⟩ r s false = (r1, s1))) (HW2 : Hid (refS ⟨16, d, a, b, imm⟩ r s true = (r2, s2))) (HS3 : Hid (Made8 nm s1)) (HS4 : Hid (Made8 nm s2)) : Calls Tryz.prog 40 #[.pointer (some ⟨qb, 0, none⟩), .int .i64 p] w fun e w' => e = .returned (.tuple #[]) /\ Inq w0 w' qb kb nm vl cb co ccap xs ls (arrK (arrK K (p + 1) r1 s1) n2 r2 s2) := by
 obtain ⟨hat, hcb, hN, hcc⟩ := h.at hp
 rw [HI.out] at hat
 obtain ⟨c0, c1, c2, c3, c4⟩ := hat
 simp only at c0 c1 c2 c3 c4
 have hpI : (p : Int) < xs.length := by omega
 have h8 : s.length = 8 := by have := h.e8.at p; rw [HK.out] at this; exact this
 have hst : StAt w kb (p * 33) r s := h.k.state h.e8 (by rw [h.len]; exact hp) HK.out
 have hqz := h.q.lt
 have hkz := h.k.lt
 have hbz := h.b0.size
 have HP : Hid (∀ w', Below w.heap.size w w' -> w'.cell? ⟨qb, 1, none⟩ = some (.slice (some ⟨cb, co, none⟩) xs.length ccap) /\ w'.cell? ⟨qb, 3, none⟩ = some (.slice (some ⟨kb, 0, none⟩) xs.length xs.length) /\ w'.cell? ⟨cb, co + p * 5, none⟩ = some (.int .i64 16) /\ w'.cell? ⟨cb, co + p * 5 + 1, none⟩ = some (.int .i64 d) /\ w'.cell? ⟨cb, co + p * 5 + 2, none⟩ = some (.int .i64 a) /\ w'.cell? ⟨cb, co + p * 5 + 3, none⟩ = some (.int .i64 b) /\ w'.cell? ⟨cb, co + p * 5 + 4, none⟩ = some (.int .i64 imm) /\ StAt w' kb (p * 33) r s) := fun w' hb' => by
  have hA := At.below (i := ⟨16, d, a, b, imm⟩) ⟨c0, c1, c2, c3, c4⟩ hb' (by omega)
  exact ⟨(h.q.below hb' hqz).cell rfl, (h.q.below hb' hqz).cell rfl, hA.1, hA.2.1, hA.2.2.1, hA.2.2.2.1, hA.2.2.2.2, hst.below hb' hkz⟩
 clear c0 c1 c2 c3 c4 hst
 have hs8 : Made8 nm s := by have := hM.at p; rw [HK.out] at this; exact this
 have HM := keepJ hM
 have HS8 := keepJ hs8
 have HSZ := keepJ (sizeJ (r := r) h8)
 have hp64 : (p : Int) < 64 := by omega
 have HN1 : Hid ((p : Int) + 1 = ((p + 1 : Nat) : Int)) := by show _ = _; omega
 clear hs8 hM
 go_enter Tryz.func40, Tryz.ntmps40
 go_wp2_with (fail)
 go_cut [4, 5] from 9 (fun v4 v5 wc => Taken2 w wc ⟨16, d, a, b, imm⟩ r s v4 v5)
 case rest =>
  obtain ⟨ib, sb, rfl, rfl, hiC, hsC, hbC, hi1, hs1, his⟩ := hcut
  have HQ := keepJ (h.below hbC)
  have HiC := keepJ hiC
  have HsC := keepJ hsC
  obtain ⟨y0, y1, y2, y3, y4⟩ := id hiC.inst
  have hzi := hiC.lt
  have hzs := hsC.lt
  have hkb : kb < wc.heap.size := HQ.out.k.lt
  have hikb : ib ≠ kb := by omega
  have hskb : sb ≠ kb := by omega
  clear hiC hsC HP h
  go_wp2_with (first
   | (go_at_call 45; go_must (refine (goes_one (i := ⟨16, d, a, b, imm⟩) (show Hid _ from rfl) HF HL HO _).mono ?_); rintro e w1 ⟨rfl, hb1⟩; go_must (have HQ1 := keepJ (HQ.out.below hb1); have HL1 := keepJ (HsC.out.below hb1 hzs).oneR; obtain ⟨x0, x1, x2, x3, x4⟩ := Box.below HiC.out.inst hb1 hzi; have hz1 := hb1.size; clear y0 y1 y2 y3 y4))
   | ((with_reducible refine wpList_load_mid ?qa1 111 (.tmp 5) ?qb1 sb 0 ?qc1 (stC r s) _ HL1.out Tryz.underlying111 ?qd1 HSZ.out ?qe1); (case qa1 => rfl); (case qb1 => rfl); (case qc1 => rfl); (case qd1 => rfl))
   | (go_at_call 67; have hq1 := HL1; go_must (refine (qBq (i := ⟨16, d, a, b, imm⟩) w1 HW1 HS8.out HA.out HB.out).mono ?_); rintro e w2 ⟨rfl, hb2⟩; go_must (have HQ2 := keepJ (HQ1.out.below hb2); have Hi2 := keepJ ((HiC.out.below hb1 hzi).below hb2 (by omega)); have Hs2 := keepJ ((HsC.out.below hb1 hzs).below hb2 (by omega)); clear hq1 HL1 hb2))
   | (go_at_call 37; have hq0 := HQ2; clear hq0; go_must (refine (qBc HQ2.out HN1 hn1 r1 HS3.out HM.out).mono ?_); rintro e w3 ⟨rfl, hg3, hq3, hm3⟩; go_must (have HQ3 := keepJ hq3; have HM3 := keepJ hm3; have Hi3 := keepJ (Hi2.out.grown hg3 (fun e => hikb (by injection e))); have Hs3 := keepJ (Hs2.out.grown hg3 (fun e => hskb (by injection e))); have HL3 := keepJ Hs3.out.oneR; have hzi3 := Hi3.out.lt; have hzs3 := Hs3.out.lt; obtain ⟨z0, z1, z2, z3, z4⟩ := Hi3.out.inst; clear hg3 hq3 hm3 HQ2 x0 x1 x2 x3 x4))
   | ((with_reducible refine wpList_load_mid ?qa3 111 (.tmp 5) ?qb3 sb 0 ?qc3 (stC r s) _ HL3.out Tryz.underlying111 ?qd3 HSZ.out ?qe3); (case qa3 => rfl); (case qb3 => rfl); (case qc3 => rfl); (case qd3 => rfl))
   | (go_at_call 67; go_must (refine (qBq (i := ⟨16, d, a, b, imm⟩) w3 HW2 HS8.out HA.out HB.out).mono ?_); rintro e w4 ⟨rfl, hb4⟩; go_must (have HQ4 := keepJ (HQ3.out.below hb4); clear HL3 hb4))
   | (go_at_call 37; go_must (refine (qBc HQ4.out HN2 hn2 r2 HS4.out HM3.out).mono ?_); rintro e w5 ⟨rfl, hg5, hq5, hm5⟩; go_must (have HQ5 := keepJ hq5; clear hg5 hq5 hm5))
   | fail)
  exact bodyPost_end (results_none rfl _ _ _) rfl ⟨rfl, HQ5.out⟩
 case first =>
  refine wp_region_held_drew (S := fun w' => w'.cell? ⟨qb, 1, none⟩ = some (.slice (some ⟨cb, co, none⟩) xs.length ccap) /\ w'.cell? ⟨qb, 3, none⟩ = some (.slice (some ⟨kb, 0, none⟩) xs.length xs.length) /\ w'.cell? ⟨cb, co + p * 5, none⟩ = some (.int .i64 16) /\ w'.cell? ⟨cb, co + p * 5 + 1, none⟩ = some (.int .i64 d) /\ w'.cell? ⟨cb, co + p * 5 + 2, none⟩ = some (.int .i64 a) /\ w'.cell? ⟨cb, co + p * 5 + 3, none⟩ = some (.int .i64 b) /\ w'.cell? ⟨cb, co + p * 5 + 4, none⟩ = some (.int .i64 imm) /\ StAt w' kb (p * 33) r s) (by kernel_rfl) (HP.out _ (Below.refl _ _).drew) (fun hHeld => ?_)
  refine wpAnyH_take (i := 0) (v := ?v40) rfl (by kernel_rfl) (by kernel_rfl) (by kernel_rfl) (fun _ _ _ h => h) (Or.inl ⟨by rfl, ?hy40⟩) (by assumption) ?rest40
  case hy40 => (intro wy hSw; (try dsimp only at hSw); go_simp; (first | done | with_reducible rfl))
  try simp only [Act.put, p1q, p2q, p3q, p4q, p5q, p6q]
  refine wpAnyH_take (i := 1) (v := ?v41) rfl (by kernel_rfl) (by kernel_rfl) (by kernel_rfl) (fun _ _ _ h => h) (Or.inl ⟨by rfl, ?hy41⟩) (by assumption) ?rest41
  case hy41 => (intro wy hSw; (try dsimp only at hSw); go_simp; (first | done | with_reducible rfl))
  try simp only [Act.put, p1q, p2q, p3q, p4q, p5q, p6q]
  refine wpAnyH_take (i := 2) (v := ?v42) rfl (by kernel_rfl) (by kernel_rfl) (by kernel_rfl) (fun _ _ _ h => h) (Or.inl ⟨by rfl, ?hy42⟩) (by assumption) ?rest42
  case hy42 => (intro wy hSw; (try dsimp only at hSw); go_simp; (first | done | with_reducible rfl))
  try simp only [Act.put, p1q, p2q, p3q, p4q, p5q, p6q]
  refine wpAnyH_take (i := 3) (v := ?v43) rfl (by kernel_rfl) (by kernel_rfl) (by kernel_rfl) (fun _ _ _ h => h) (Or.inl ⟨by rfl, ?hy43⟩) (by assumption) ?rest43
  case hy43 => (intro wy hSw; (try dsimp only at hSw); go_simp; (first | done | with_reducible rfl))
  try simp only [Act.put, p1q, p2q, p3q, p4q, p5q, p6q]
  refine wpAnyH_take (i := 4) (v := ?v44) rfl (by kernel_rfl) (by kernel_rfl) (by kernel_rfl) (fun _ _ _ h => h) (Or.inl ⟨by rfl, ?hy44⟩) (by assumption) ?rest44
  case hy44 => (intro wy hSw; (try dsimp only at hSw); go_simp; (first | done | with_reducible rfl))
  try simp only [Act.put, p1q, p2q, p3q, p4q, p5q, p6q]
  refine wpAnyH_take (i := 5) (v := ?v45) rfl (by kernel_rfl) (by kernel_rfl) (by kernel_rfl) (fun _ _ _ h => h) (Or.inl ⟨by rfl, ?hy45⟩) (by assumption) ?rest45
  case hy45 => (intro wy hSw; (try dsimp only at hSw); go_simp; (first | done | with_reducible rfl))
  try simp only [Act.put, p1q, p2q, p3q, p4q, p5q, p6q]
  refine wpAnyH_take (i := 6) (v := ?v46) rfl (by kernel_rfl) (by kernel_rfl) (by kernel_rfl) (fun _ _ _ h => h) (Or.inl ⟨by rfl, ?hy46⟩) (by assumption) ?rest46
  case hy46 => (intro wy hSw; (try dsimp only at hSw); go_simp; (first | done | with_reducible rfl))
  try simp only [Act.put, p1q, p2q, p3q, p4q, p5q, p6q]
  refine wpAnyH_take (i := 7) (v := ?v47) rfl (by kernel_rfl) (by kernel_rfl) (by kernel_rfl) (fun _ _ _ h => h) (Or.inl ⟨by rfl, ?hy47⟩) (by assumption) ?rest47
  case hy47 => (intro wy hSw; (try dsimp only at hSw); go_simp; (first | done | with_reducible rfl))
  try simp only [Act.put, p1q, p2q, p3q, p4q, p5q, p6q]
  refine wpAnyH_take (i := 8) (v := ?v48) rfl (by kernel_rfl) (by kernel_rfl) (by kernel_rfl) (fun _ _ _ h => h) (Or.inl ⟨by rfl, ?hy48⟩) (by assumption) ?rest48
  case hy48 => (intro wy hSw; (try dsimp only at hSw); go_simp; (first | done | with_reducible rfl))
  try simp only [Act.put, p1q, p2q, p3q, p4q, p5q, p6q]
  refine wpAnyH_take (i := 9) (v := ?v49) rfl (by kernel_rfl) (by kernel_rfl) (by kernel_rfl) (fun _ _ _ h => h) (Or.inl ⟨by rfl, ?hy49⟩) (by assumption) ?rest49
  case hy49 => (intro wy hSw; (try dsimp only at hSw); go_simp; (first | done | with_reducible rfl))
  try simp only [Act.put, p1q, p2q, p3q, p4q, p5q, p6q]
  refine wpAnyH_take (i := 10) (v := ?v50) rfl (by kernel_rfl) (by kernel_rfl) (by kernel_rfl) (fun _ _ _ h => h) (Or.inl ⟨by rfl, ?hy50⟩) (by assumption) ?rest50
  case hy50 => (intro wy hSw; (try dsimp only at hSw); go_simp; (first | done | with_reducible rfl))
  try simp only [Act.put, p1q, p2q, p3q, p4q, p5q, p6q]
  refine wpAnyH_take (i := 11) (v := ?v51) rfl (by kernel_rfl) (by kernel_rfl) (by kernel_rfl) (fun _ _ _ h => h) (Or.inl ⟨by rfl, ?hy51⟩) (by assumption) ?rest51
  case hy51 => (intro wy hSw; (try dsimp only at hSw); go_simp; (first | done | with_reducible rfl))
  try simp only [Act.put, p1q, p2q, p3q, p4q, p5q, p6q]
  refine wpAnyH_take (i := 12) (v := ?v52) rfl (by kernel_rfl) (by kernel_rfl) (by kernel_rfl) (fun _ _ _ h => h) (Or.inl ⟨by rfl, ?hy52⟩) (by assumption) ?rest52
  case hy52 => (intro wy hSw; (try dsimp only at hSw); go_simp; (first | done | with_reducible rfl))
  try simp only [Act.put, p1q, p2q, p3q, p4q, p5q, p6q]
  refine wpAnyH_take (i := 13) rfl (by kernel_rfl) (by kernel_rfl) (by kernel_rfl) (fun _ _ _ h => h) (yieldsIf_load_mid (by rfl) _ _ rfl _ _ rfl (stC r s) _ (fun w h => h.2.2.2.2.2.2.2) Tryz.underlying111 rfl (sizeJ h8)) (by assumption) ?_
  try simp only [Act.put, p1q, p2q, p3q, p4q, p5q, p6q]
  refine wpAnyH_ready (rs := [14, 15]) (by kernel_rfl) (by simp) ?_
  refine AllReadyH.cons rfl (fun KK hK => ?_) (AllReadyH.cons rfl (fun KK hK => ?_) AllReadyH.nil) <;> rw [if_pos (by rfl)]
  ·go_simp
   refine hK.out _ _ (HP.out _ ((Below.refl _ _).alloc (Nat.le_refl _) _).drew) (fun hHeld => ?_)
   clear hK KK
   try simp only [Act.put, p1q, p2q, p3q, p4q, p5q, p6q]
   refine wpAnyH_ready (rs := [15]) (by kernel_rfl) (by simp) ?_
   refine AllReadyH.cons rfl (fun KK hK => ?_) AllReadyH.nil
   rw [if_pos (by rfl)]
   go_simp
   obtain ⟨Y, HY, HiY, HsY, hbY, hzY⟩ : ∃ Y, Hid (Y = (w.alloc (Obj.cells #[.int .i64 0, .int .i64 0, .int .i64 0, .int .i64 0, .int .i64 0] 70)).alloc (Obj.cells #[.bool false, .int .i64 0, .int .u64 0, .int .u64 0, .int .i64 0, .int .i64 0, .int .u64 0, .int .u64 0, .int .i64 0, .int .i64 0, .int .u64 0, .int .u64 0, .int .i64 0, .int .i64 0, .int .u64 0, .int .u64 0, .int .i64 0, .int .i64 0, .int .u64 0, .int .u64 0, .int .i64 0, .int .i64 0, .int .u64 0, .int .u64 0, .int .i64 0, .int .i64 0, .int .u64 0, .int .u64 0, .int .i64 0, .int .i64 0, .int .u64 0, .int .u64 0, .int .i64 0] 111)) /\ Hid (Hp Y w.heap.size 70 (inC ⟨0, 0, 0, 0, 0⟩)) /\ Hid (Hp Y (w.heap.size + 1) 111 zeroC) /\ Below w.heap.size w Y /\ w.heap.size + 2 <= Y.heap.size := ⟨_, rfl, (Hp.new w (inC ⟨0, 0, 0, 0, 0⟩) _).alloc _, keepJ (by have := Hp.new (w.alloc (Obj.cells #[.int .i64 0, .int .i64 0, .int .i64 0, .int .i64 0, .int .i64 0] 70)) zeroC 111; simpa [zeroC] using this), by go_grown, by simp⟩
   rw [<- HY.out]
   clear HY
   refine hK.out _ _ (HP.out _ hbY.drew) (fun hHeld => ?_)
   clear hK KK
   try simp only [Act.put, p1q, p2q, p3q, p4q, p5q, p6q]
   have n0 : Y.cell? ⟨w.heap.size, 0, none⟩ = some (.int .i64 0) := HiY.out.cell rfl
   have f0 := HiY.out.frozen 0
   have n1 : Y.cell? ⟨w.heap.size, 1, none⟩ = some (.int .i64 0) := HiY.out.cell rfl
   have f1 := HiY.out.frozen 1
   have n2 : Y.cell? ⟨w.heap.size, 2, none⟩ = some (.int .i64 0) := HiY.out.cell rfl
   have f2 := HiY.out.frozen 2
   have n3 : Y.cell? ⟨w.heap.size, 3, none⟩ = some (.int .i64 0) := HiY.out.cell rfl
   have f3 := HiY.out.frozen 3
   have n4 : Y.cell? ⟨w.heap.size, 4, none⟩ = some (.int .i64 0) := HiY.out.cell rfl
   have f4 := HiY.out.frozen 4
   refine wpAnyH_ready (rs := [16]) (by kernel_rfl) (by simp) ?_
   refine AllReadyH.cons rfl (fun KK hK => ?_) AllReadyH.nil
   rw [if_pos (by rfl)]
   go_simp
   clear n0 n1 n2 n3 n4 f0 f1 f2 f3 f4
   obtain ⟨V, HV, HiV, HsV, hbV, hzV⟩ : ∃ V, Hid (V = (((((Y.setCell ⟨w.heap.size, 0, none⟩ (.int .i64 16)).setCell ⟨w.heap.size, 1, none⟩ (.int .i64 d)).setCell ⟨w.heap.size, 2, none⟩ (.int .i64 a)).setCell ⟨w.heap.size, 3, none⟩ (.int .i64 b)).setCell ⟨w.heap.size, 4, none⟩ (.int .i64 imm))) /\ Hid (Hp V w.heap.size 70 (inC ⟨16, d, a, b, imm⟩)) /\ Hid (Hp V (w.heap.size + 1) 111 zeroC) /\ Below w.heap.size w V /\ w.heap.size + 2 <= V.heap.size := ⟨_, rfl, HiY.out.sets (inC ⟨16, d, a, b, imm⟩) 0, HsY.out.fars (by omega) (inC ⟨16, d, a, b, imm⟩) 0, hbY.trans (qAc (qAa _ (inC ⟨16, d, a, b, imm⟩) Y 0) (by omega) hbY.size), Nat.le_trans hzY (qAa _ (inC ⟨16, d, a, b, imm⟩) Y 0).size⟩
   rw [<- HV.out]
   clear HV HiY HsY
   refine hK.out _ _ (HP.out _ hbV.drew) (fun hHeld => ?_)
   clear hK KK
   try simp only [Act.put, p1q, p2q, p3q, p4q, p5q, p6q]
   refine wpAnyH_ready (rs := [17]) (by kernel_rfl) (by simp) ?_
   refine AllReadyH.cons rfl (fun KK hK => ?_) AllReadyH.nil
   rw [if_pos (by rfl)]
   have HTH : V.drew.there (w.heap.size + 1) 0 (stC r s).toArray.size := by rw [qAu r h8]; exact HsV.out.drew.there (by rw [qAe]; omega)
   refine wp_store_mid _ _ _ rfl _ _ (List.toArray _) rfl rfl HTH (sizeJA h8) (qAz r s) ?_
   have hbU : Below w.heap.size w (V.drew.setCells (w.heap.size + 1) 0 (stC r s)) := (hbV.drew).trans (qAc (qAa _ _ _ _) (by omega) (show w.heap.size <= V.heap.size by omega))
   refine hK.out _ _ (HP.out _ hbU) (fun hHeld => ?_)
   clear hK KK
   try simp only [Act.put, p1q, p2q, p3q, p4q, p5q, p6q]
   refine wpAnyH_done (by kernel_rfl) ?_ _
   go_wp2
   go_meet
   case rel => exact ⟨w.heap.size, (w.heap.size + 1), rfl, rfl, HiV.out.drew.fars (by omega) _ _, HsV.out.drew.box qAe h8, hbU, by omega, by omega, by omega⟩
  ·go_simp
   refine hK.out _ _ (HP.out _ ((Below.refl _ _).alloc (Nat.le_refl _) _).drew) (fun hHeld => ?_)
   clear hK KK
   try simp only [Act.put, p1q, p2q, p3q, p4q, p5q, p6q]
   refine wpAnyH_ready (rs := [14]) (by kernel_rfl) (by simp) ?_
   refine AllReadyH.cons rfl (fun KK hK => ?_) AllReadyH.nil
   rw [if_pos (by rfl)]
   go_simp
   obtain ⟨Y, HY, HiY, HsY, hbY, hzY⟩ : ∃ Y, Hid (Y = (w.alloc (Obj.cells #[.bool false, .int .i64 0, .int .u64 0, .int .u64 0, .int .i64 0, .int .i64 0, .int .u64 0, .int .u64 0, .int .i64 0, .int .i64 0, .int .u64 0, .int .u64 0, .int .i64 0, .int .i64 0, .int .u64 0, .int .u64 0, .int .i64 0, .int .i64 0, .int .u64 0, .int .u64 0, .int .i64 0, .int .i64 0, .int .u64 0, .int .u64 0, .int .i64 0, .int .i64 0, .int .u64 0, .int .u64 0, .int .i64 0, .int .i64 0, .int .u64 0, .int .u64 0, .int .i64 0] 111)).alloc (Obj.cells #[.int .i64 0, .int .i64 0, .int .i64 0, .int .i64 0, .int .i64 0] 70)) /\ Hid (Hp Y (w.heap.size + 1) 70 (inC ⟨0, 0, 0, 0, 0⟩)) /\ Hid (Hp Y w.heap.size 111 zeroC) /\ Below w.heap.size w Y /\ w.heap.size + 2 <= Y.heap.size := ⟨_, rfl, keepJ (by have := Hp.new (w.alloc (Obj.cells #[.bool false, .int .i64 0, .int .u64 0, .int .u64 0, .int .i64 0, .int .i64 0, .int .u64 0, .int .u64 0, .int .i64 0, .int .i64 0, .int .u64 0, .int .u64 0, .int .i64 0, .int .i64 0, .int .u64 0, .int .u64 0, .int .i64 0, .int .i64 0, .int .u64 0, .int .u64 0, .int .i64 0, .int .i64 0, .int .u64 0, .int .u64 0, .int .i64 0, .int .i64 0, .int .u64 0, .int .u64 0, .int .i64 0, .int .i64 0, .int .u64 0, .int .u64 0, .int .i64 0] 111)) (inC ⟨0, 0, 0, 0, 0⟩) 70; simpa [inC] using this), (Hp.new w zeroC _).alloc _, by go_grown, by simp⟩
   rw [<- HY.out]
   clear HY
   refine hK.out _ _ (HP.out _ hbY.drew) (fun hHeld => ?_)
   clear hK KK
   try simp only [Act.put, p1q, p2q, p3q, p4q, p5q, p6q]
   have n0 : Y.cell? ⟨(w.heap.size + 1), 0, none⟩ = some (.int .i64 0) := HiY.out.cell rfl
   have f0 := HiY.out.frozen 0
   have n1 : Y.cell? ⟨(w.heap.size + 1), 1, none⟩ = some (.int .i64 0) := HiY.out.cell rfl
   have f1 := HiY.out.frozen 1
   have n2 : Y.cell? ⟨(w.heap.size + 1), 2, none⟩ = some (.int .i64 0) := HiY.out.cell rfl
   have f2 := HiY.out.frozen 2
   have n3 : Y.cell? ⟨(w.heap.size + 1), 3, none⟩ = some (.int .i64 0) := HiY.out.cell rfl
   have f3 := HiY.out.frozen 3
   have n4 : Y.cell? ⟨(w.heap.size + 1), 4, none⟩ = some (.int .i64 0) := HiY.out.cell rfl
   have f4 := HiY.out.frozen 4
   refine wpAnyH_ready (rs := [16]) (by kernel_rfl) (by simp) ?_
   refine AllReadyH.cons rfl (fun KK hK => ?_) AllReadyH.nil
   rw [if_pos (by rfl)]
   go_simp
   clear n0 n1 n2 n3 n4 f0 f1 f2 f3 f4
   obtain ⟨V, HV, HiV, HsV, hbV, hzV⟩ : ∃ V, Hid (V = (((((Y.setCell ⟨(w.heap.size + 1), 0, none⟩ (.int .i64 16)).setCell ⟨(w.heap.size + 1), 1, none⟩ (.int .i64 d)).setCell ⟨(w.heap.size + 1), 2, none⟩ (.int .i64 a)).setCell ⟨(w.heap.size + 1), 3, none⟩ (.int .i64 b)).setCell ⟨(w.heap.size + 1), 4, none⟩ (.int .i64 imm))) /\ Hid (Hp V (w.heap.size + 1) 70 (inC ⟨16, d, a, b, imm⟩)) /\ Hid (Hp V w.heap.size 111 zeroC) /\ Below w.heap.size w V /\ w.heap.size + 2 <= V.heap.size := ⟨_, rfl, HiY.out.sets (inC ⟨16, d, a, b, imm⟩) 0, HsY.out.fars (by omega) (inC ⟨16, d, a, b, imm⟩) 0, hbY.trans (qAc (qAa _ (inC ⟨16, d, a, b, imm⟩) Y 0) (by omega) hbY.size), Nat.le_trans hzY (qAa _ (inC ⟨16, d, a, b, imm⟩) Y 0).size⟩
   rw [<- HV.out]
   clear HV HiY HsY
   refine hK.out _ _ (HP.out _ hbV.drew) (fun hHeld => ?_)
   clear hK KK
   try simp only [Act.put, p1q, p2q, p3q, p4q, p5q, p6q]
   refine wpAnyH_ready (rs := [17]) (by kernel_rfl) (by simp) ?_
   refine AllReadyH.cons rfl (fun KK hK => ?_) AllReadyH.nil
   rw [if_pos (by rfl)]
   have HTH : V.drew.there w.heap.size 0 (stC r s).toArray.size := by rw [qAu r h8]; exact HsV.out.drew.there (by rw [qAe]; omega)
   refine wp_store_mid _ _ _ rfl _ _ (List.toArray _) rfl rfl HTH (sizeJA h8) (qAz r s) ?_
   have hbU : Below w.heap.size w (V.drew.setCells w.heap.size 0 (stC r s)) := (hbV.drew).trans (qAc (qAa _ _ _ _) (by omega) (show w.heap.size <= V.heap.size by omega))
   refine hK.out _ _ (HP.out _ hbU) (fun hHeld => ?_)
   clear hK KK
   try simp only [Act.put, p1q, p2q, p3q, p4q, p5q, p6q]
   refine wpAnyH_done (by kernel_rfl) ?_ _
   go_wp2
   go_meet
   case rel => exact ⟨(w.heap.size + 1), w.heap.size, rfl, rfl, HiV.out.drew.fars (by omega) _ _, HsV.out.drew.box qAe h8, hbU, by omega, by omega, by omega⟩
set_option maxHeartbeats 3200000 in
theorem lleave_if17 (w0 w : World) (qb kb nm cb co ccap p : Nat) (vl : Value) (xs : List In) (ls : List Lp) (K : Kn) (h : Inq w0 w qb kb nm vl cb co ccap xs ls K) (hp : p < xs.length) (h64 : xs.length <= 64) (hM : MadeK nm K) (d a b imm : Int) (HI : Hid (nth xs p = ⟨17, d, a, b, imm⟩)) (r : Bool) (s : St) (HK : Hid (K.getD p kn0 = (r, s))) (f : Int) (l o : Bool) (HF : Hid (f = In.far ⟨17, d, a, b, imm⟩)) (HL : Hid (l = In.leads ⟨17, d, a, b, imm⟩)) (HO : Hid (o = In.on ⟨17, d, a, b, imm⟩)) (n2 : Nat) (hn2 : n2 < xs.length) (HN2 : Hid ((p : Int) + f = n2)) (hf : 0 <= f /\ f <= 64) (hn1 : p + 1 < xs.length) (HA : Hid (0 <= a /\ a <= 7)) (HB : Hid (b = 8 ∨ (0 <= b /\ b <= 7))) (r1 r2 : Bool) (s1 s2 : St) (HW1 : Hid (refS ⟨17, d, a, b, imm⟩ r s false = (r1, s1))) (HW2 : Hid (refS ⟨17, d, a, b, imm⟩ r s true = (r2, s2))) (HS3 : Hid (Made8 nm s1)) (HS4 : Hid (Made8 nm s2)) : Calls Tryz.prog 40 #[.pointer (some ⟨qb, 0, none⟩), .int .i64 p] w fun e w' => e = .returned (.tuple #[]) /\ Inq w0 w' qb kb nm vl cb co ccap xs ls (arrK (arrK K (p + 1) r1 s1) n2 r2 s2) := by
 obtain ⟨hat, hcb, hN, hcc⟩ := h.at hp
 rw [HI.out] at hat
 obtain ⟨c0, c1, c2, c3, c4⟩ := hat
 simp only at c0 c1 c2 c3 c4
 have hpI : (p : Int) < xs.length := by omega
 have h8 : s.length = 8 := by have := h.e8.at p; rw [HK.out] at this; exact this
 have hst : StAt w kb (p * 33) r s := h.k.state h.e8 (by rw [h.len]; exact hp) HK.out
 have hqz := h.q.lt
 have hkz := h.k.lt
 have hbz := h.b0.size
 have HP : Hid (∀ w', Below w.heap.size w w' -> w'.cell? ⟨qb, 1, none⟩ = some (.slice (some ⟨cb, co, none⟩) xs.length ccap) /\ w'.cell? ⟨qb, 3, none⟩ = some (.slice (some ⟨kb, 0, none⟩) xs.length xs.length) /\ w'.cell? ⟨cb, co + p * 5, none⟩ = some (.int .i64 17) /\ w'.cell? ⟨cb, co + p * 5 + 1, none⟩ = some (.int .i64 d) /\ w'.cell? ⟨cb, co + p * 5 + 2, none⟩ = some (.int .i64 a) /\ w'.cell? ⟨cb, co + p * 5 + 3, none⟩ = some (.int .i64 b) /\ w'.cell? ⟨cb, co + p * 5 + 4, none⟩ = some (.int .i64 imm) /\ StAt w' kb (p * 33) r s) := fun w' hb' => by
  have hA := At.below (i := ⟨17, d, a, b, imm⟩) ⟨c0, c1, c2, c3, c4⟩ hb' (by omega)
  exact ⟨(h.q.below hb' hqz).cell rfl, (h.q.below hb' hqz).cell rfl, hA.1, hA.2.1, hA.2.2.1, hA.2.2.2.1, hA.2.2.2.2, hst.below hb' hkz⟩
 clear c0 c1 c2 c3 c4 hst
 have hs8 : Made8 nm s := by have := hM.at p; rw [HK.out] at this; exact this
 have HM := keepJ hM
 have HS8 := keepJ hs8
 have HSZ := keepJ (sizeJ (r := r) h8)
 have hp64 : (p : Int) < 64 := by omega
 have HN1 : Hid ((p : Int) + 1 = ((p + 1 : Nat) : Int)) := by show _ = _; omega
 clear hs8 hM
 go_enter Tryz.func40, Tryz.ntmps40
 go_wp2_with (fail)
 go_cut [4, 5] from 9 (fun v4 v5 wc => Taken2 w wc ⟨17, d, a, b, imm⟩ r s v4 v5)
 case rest =>
  obtain ⟨ib, sb, rfl, rfl, hiC, hsC, hbC, hi1, hs1, his⟩ := hcut
  have HQ := keepJ (h.below hbC)
  have HiC := keepJ hiC
  have HsC := keepJ hsC
  obtain ⟨y0, y1, y2, y3, y4⟩ := id hiC.inst
  have hzi := hiC.lt
  have hzs := hsC.lt
  have hkb : kb < wc.heap.size := HQ.out.k.lt
  have hikb : ib ≠ kb := by omega
  have hskb : sb ≠ kb := by omega
  clear hiC hsC HP h
  go_wp2_with (first
   | (go_at_call 45; go_must (refine (goes_one (i := ⟨17, d, a, b, imm⟩) (show Hid _ from rfl) HF HL HO _).mono ?_); rintro e w1 ⟨rfl, hb1⟩; go_must (have HQ1 := keepJ (HQ.out.below hb1); have HL1 := keepJ (HsC.out.below hb1 hzs).oneR; obtain ⟨x0, x1, x2, x3, x4⟩ := Box.below HiC.out.inst hb1 hzi; have hz1 := hb1.size; clear y0 y1 y2 y3 y4))
   | ((with_reducible refine wpList_load_mid ?qa1 111 (.tmp 5) ?qb1 sb 0 ?qc1 (stC r s) _ HL1.out Tryz.underlying111 ?qd1 HSZ.out ?qe1); (case qa1 => rfl); (case qb1 => rfl); (case qc1 => rfl); (case qd1 => rfl))
   | (go_at_call 67; have hq1 := HL1; go_must (refine (qBq (i := ⟨17, d, a, b, imm⟩) w1 HW1 HS8.out HA.out HB.out).mono ?_); rintro e w2 ⟨rfl, hb2⟩; go_must (have HQ2 := keepJ (HQ1.out.below hb2); have Hi2 := keepJ ((HiC.out.below hb1 hzi).below hb2 (by omega)); have Hs2 := keepJ ((HsC.out.below hb1 hzs).below hb2 (by omega)); clear hq1 HL1 hb2))
   | (go_at_call 37; have hq0 := HQ2; clear hq0; go_must (refine (qBc HQ2.out HN1 hn1 r1 HS3.out HM.out).mono ?_); rintro e w3 ⟨rfl, hg3, hq3, hm3⟩; go_must (have HQ3 := keepJ hq3; have HM3 := keepJ hm3; have Hi3 := keepJ (Hi2.out.grown hg3 (fun e => hikb (by injection e))); have Hs3 := keepJ (Hs2.out.grown hg3 (fun e => hskb (by injection e))); have HL3 := keepJ Hs3.out.oneR; have hzi3 := Hi3.out.lt; have hzs3 := Hs3.out.lt; obtain ⟨z0, z1, z2, z3, z4⟩ := Hi3.out.inst; clear hg3 hq3 hm3 HQ2 x0 x1 x2 x3 x4))
   | ((with_reducible refine wpList_load_mid ?qa3 111 (.tmp 5) ?qb3 sb 0 ?qc3 (stC r s) _ HL3.out Tryz.underlying111 ?qd3 HSZ.out ?qe3); (case qa3 => rfl); (case qb3 => rfl); (case qc3 => rfl); (case qd3 => rfl))
   | (go_at_call 67; go_must (refine (qBq (i := ⟨17, d, a, b, imm⟩) w3 HW2 HS8.out HA.out HB.out).mono ?_); rintro e w4 ⟨rfl, hb4⟩; go_must (have HQ4 := keepJ (HQ3.out.below hb4); clear HL3 hb4))
   | (go_at_call 37; go_must (refine (qBc HQ4.out HN2 hn2 r2 HS4.out HM3.out).mono ?_); rintro e w5 ⟨rfl, hg5, hq5, hm5⟩; go_must (have HQ5 := keepJ hq5; clear hg5 hq5 hm5))
   | fail)
  exact bodyPost_end (results_none rfl _ _ _) rfl ⟨rfl, HQ5.out⟩
 case first =>
  refine wp_region_held_drew (S := fun w' => w'.cell? ⟨qb, 1, none⟩ = some (.slice (some ⟨cb, co, none⟩) xs.length ccap) /\ w'.cell? ⟨qb, 3, none⟩ = some (.slice (some ⟨kb, 0, none⟩) xs.length xs.length) /\ w'.cell? ⟨cb, co + p * 5, none⟩ = some (.int .i64 17) /\ w'.cell? ⟨cb, co + p * 5 + 1, none⟩ = some (.int .i64 d) /\ w'.cell? ⟨cb, co + p * 5 + 2, none⟩ = some (.int .i64 a) /\ w'.cell? ⟨cb, co + p * 5 + 3, none⟩ = some (.int .i64 b) /\ w'.cell? ⟨cb, co + p * 5 + 4, none⟩ = some (.int .i64 imm) /\ StAt w' kb (p * 33) r s) (by kernel_rfl) (HP.out _ (Below.refl _ _).drew) (fun hHeld => ?_)
  refine wpAnyH_take (i := 0) (v := ?v53) rfl (by kernel_rfl) (by kernel_rfl) (by kernel_rfl) (fun _ _ _ h => h) (Or.inl ⟨by rfl, ?hy53⟩) (by assumption) ?rest53
  case hy53 => (intro wy hSw; (try dsimp only at hSw); go_simp; (first | done | with_reducible rfl))
  try simp only [Act.put, p1q, p2q, p3q, p4q, p5q, p6q]
  refine wpAnyH_take (i := 1) (v := ?v54) rfl (by kernel_rfl) (by kernel_rfl) (by kernel_rfl) (fun _ _ _ h => h) (Or.inl ⟨by rfl, ?hy54⟩) (by assumption) ?rest54
  case hy54 => (intro wy hSw; (try dsimp only at hSw); go_simp; (first | done | with_reducible rfl))
  try simp only [Act.put, p1q, p2q, p3q, p4q, p5q, p6q]
  refine wpAnyH_take (i := 2) (v := ?v55) rfl (by kernel_rfl) (by kernel_rfl) (by kernel_rfl) (fun _ _ _ h => h) (Or.inl ⟨by rfl, ?hy55⟩) (by assumption) ?rest55
  case hy55 => (intro wy hSw; (try dsimp only at hSw); go_simp; (first | done | with_reducible rfl))
  try simp only [Act.put, p1q, p2q, p3q, p4q, p5q, p6q]
  refine wpAnyH_take (i := 3) (v := ?v56) rfl (by kernel_rfl) (by kernel_rfl) (by kernel_rfl) (fun _ _ _ h => h) (Or.inl ⟨by rfl, ?hy56⟩) (by assumption) ?rest56
  case hy56 => (intro wy hSw; (try dsimp only at hSw); go_simp; (first | done | with_reducible rfl))
  try simp only [Act.put, p1q, p2q, p3q, p4q, p5q, p6q]
  refine wpAnyH_take (i := 4) (v := ?v57) rfl (by kernel_rfl) (by kernel_rfl) (by kernel_rfl) (fun _ _ _ h => h) (Or.inl ⟨by rfl, ?hy57⟩) (by assumption) ?rest57
  case hy57 => (intro wy hSw; (try dsimp only at hSw); go_simp; (first | done | with_reducible rfl))
  try simp only [Act.put, p1q, p2q, p3q, p4q, p5q, p6q]
  refine wpAnyH_take (i := 5) (v := ?v58) rfl (by kernel_rfl) (by kernel_rfl) (by kernel_rfl) (fun _ _ _ h => h) (Or.inl ⟨by rfl, ?hy58⟩) (by assumption) ?rest58
  case hy58 => (intro wy hSw; (try dsimp only at hSw); go_simp; (first | done | with_reducible rfl))
  try simp only [Act.put, p1q, p2q, p3q, p4q, p5q, p6q]
  refine wpAnyH_take (i := 6) (v := ?v59) rfl (by kernel_rfl) (by kernel_rfl) (by kernel_rfl) (fun _ _ _ h => h) (Or.inl ⟨by rfl, ?hy59⟩) (by assumption) ?rest59
  case hy59 => (intro wy hSw; (try dsimp only at hSw); go_simp; (first | done | with_reducible rfl))
  try simp only [Act.put, p1q, p2q, p3q, p4q, p5q, p6q]
  refine wpAnyH_take (i := 7) (v := ?v60) rfl (by kernel_rfl) (by kernel_rfl) (by kernel_rfl) (fun _ _ _ h => h) (Or.inl ⟨by rfl, ?hy60⟩) (by assumption) ?rest60
  case hy60 => (intro wy hSw; (try dsimp only at hSw); go_simp; (first | done | with_reducible rfl))
  try simp only [Act.put, p1q, p2q, p3q, p4q, p5q, p6q]
  refine wpAnyH_take (i := 8) (v := ?v61) rfl (by kernel_rfl) (by kernel_rfl) (by kernel_rfl) (fun _ _ _ h => h) (Or.inl ⟨by rfl, ?hy61⟩) (by assumption) ?rest61
  case hy61 => (intro wy hSw; (try dsimp only at hSw); go_simp; (first | done | with_reducible rfl))
  try simp only [Act.put, p1q, p2q, p3q, p4q, p5q, p6q]
  refine wpAnyH_take (i := 9) (v := ?v62) rfl (by kernel_rfl) (by kernel_rfl) (by kernel_rfl) (fun _ _ _ h => h) (Or.inl ⟨by rfl, ?hy62⟩) (by assumption) ?rest62
  case hy62 => (intro wy hSw; (try dsimp only at hSw); go_simp; (first | done | with_reducible rfl))
  try simp only [Act.put, p1q, p2q, p3q, p4q, p5q, p6q]
  refine wpAnyH_take (i := 10) (v := ?v63) rfl (by kernel_rfl) (by kernel_rfl) (by kernel_rfl) (fun _ _ _ h => h) (Or.inl ⟨by rfl, ?hy63⟩) (by assumption) ?rest63
  case hy63 => (intro wy hSw; (try dsimp only at hSw); go_simp; (first | done | with_reducible rfl))
  try simp only [Act.put, p1q, p2q, p3q, p4q, p5q, p6q]
  refine wpAnyH_take (i := 11) (v := ?v64) rfl (by kernel_rfl) (by kernel_rfl) (by kernel_rfl) (fun _ _ _ h => h) (Or.inl ⟨by rfl, ?hy64⟩) (by assumption) ?rest64
  case hy64 => (intro wy hSw; (try dsimp only at hSw); go_simp; (first | done | with_reducible rfl))
  try simp only [Act.put, p1q, p2q, p3q, p4q, p5q, p6q]
  refine wpAnyH_take (i := 12) (v := ?v65) rfl (by kernel_rfl) (by kernel_rfl) (by kernel_rfl) (fun _ _ _ h => h) (Or.inl ⟨by rfl, ?hy65⟩) (by assumption) ?rest65
  case hy65 => (intro wy hSw; (try dsimp only at hSw); go_simp; (first | done | with_reducible rfl))
  try simp only [Act.put, p1q, p2q, p3q, p4q, p5q, p6q]
  refine wpAnyH_take (i := 13) rfl (by kernel_rfl) (by kernel_rfl) (by kernel_rfl) (fun _ _ _ h => h) (yieldsIf_load_mid (by rfl) _ _ rfl _ _ rfl (stC r s) _ (fun w h => h.2.2.2.2.2.2.2) Tryz.underlying111 rfl (sizeJ h8)) (by assumption) ?_
  try simp only [Act.put, p1q, p2q, p3q, p4q, p5q, p6q]
  refine wpAnyH_ready (rs := [14, 15]) (by kernel_rfl) (by simp) ?_
  refine AllReadyH.cons rfl (fun KK hK => ?_) (AllReadyH.cons rfl (fun KK hK => ?_) AllReadyH.nil) <;> rw [if_pos (by rfl)]
  ·go_simp
   refine hK.out _ _ (HP.out _ ((Below.refl _ _).alloc (Nat.le_refl _) _).drew) (fun hHeld => ?_)
   clear hK KK
   try simp only [Act.put, p1q, p2q, p3q, p4q, p5q, p6q]
   refine wpAnyH_ready (rs := [15]) (by kernel_rfl) (by simp) ?_
   refine AllReadyH.cons rfl (fun KK hK => ?_) AllReadyH.nil
   rw [if_pos (by rfl)]
   go_simp
   obtain ⟨Y, HY, HiY, HsY, hbY, hzY⟩ : ∃ Y, Hid (Y = (w.alloc (Obj.cells #[.int .i64 0, .int .i64 0, .int .i64 0, .int .i64 0, .int .i64 0] 70)).alloc (Obj.cells #[.bool false, .int .i64 0, .int .u64 0, .int .u64 0, .int .i64 0, .int .i64 0, .int .u64 0, .int .u64 0, .int .i64 0, .int .i64 0, .int .u64 0, .int .u64 0, .int .i64 0, .int .i64 0, .int .u64 0, .int .u64 0, .int .i64 0, .int .i64 0, .int .u64 0, .int .u64 0, .int .i64 0, .int .i64 0, .int .u64 0, .int .u64 0, .int .i64 0, .int .i64 0, .int .u64 0, .int .u64 0, .int .i64 0, .int .i64 0, .int .u64 0, .int .u64 0, .int .i64 0] 111)) /\ Hid (Hp Y w.heap.size 70 (inC ⟨0, 0, 0, 0, 0⟩)) /\ Hid (Hp Y (w.heap.size + 1) 111 zeroC) /\ Below w.heap.size w Y /\ w.heap.size + 2 <= Y.heap.size := ⟨_, rfl, (Hp.new w (inC ⟨0, 0, 0, 0, 0⟩) _).alloc _, keepJ (by have := Hp.new (w.alloc (Obj.cells #[.int .i64 0, .int .i64 0, .int .i64 0, .int .i64 0, .int .i64 0] 70)) zeroC 111; simpa [zeroC] using this), by go_grown, by simp⟩
   rw [<- HY.out]
   clear HY
   refine hK.out _ _ (HP.out _ hbY.drew) (fun hHeld => ?_)
   clear hK KK
   try simp only [Act.put, p1q, p2q, p3q, p4q, p5q, p6q]
   have n0 : Y.cell? ⟨w.heap.size, 0, none⟩ = some (.int .i64 0) := HiY.out.cell rfl
   have f0 := HiY.out.frozen 0
   have n1 : Y.cell? ⟨w.heap.size, 1, none⟩ = some (.int .i64 0) := HiY.out.cell rfl
   have f1 := HiY.out.frozen 1
   have n2 : Y.cell? ⟨w.heap.size, 2, none⟩ = some (.int .i64 0) := HiY.out.cell rfl
   have f2 := HiY.out.frozen 2
   have n3 : Y.cell? ⟨w.heap.size, 3, none⟩ = some (.int .i64 0) := HiY.out.cell rfl
   have f3 := HiY.out.frozen 3
   have n4 : Y.cell? ⟨w.heap.size, 4, none⟩ = some (.int .i64 0) := HiY.out.cell rfl
   have f4 := HiY.out.frozen 4
   refine wpAnyH_ready (rs := [16]) (by kernel_rfl) (by simp) ?_
   refine AllReadyH.cons rfl (fun KK hK => ?_) AllReadyH.nil
   rw [if_pos (by rfl)]
   go_simp
   clear n0 n1 n2 n3 n4 f0 f1 f2 f3 f4
   obtain ⟨V, HV, HiV, HsV, hbV, hzV⟩ : ∃ V, Hid (V = (((((Y.setCell ⟨w.heap.size, 0, none⟩ (.int .i64 17)).setCell ⟨w.heap.size, 1, none⟩ (.int .i64 d)).setCell ⟨w.heap.size, 2, none⟩ (.int .i64 a)).setCell ⟨w.heap.size, 3, none⟩ (.int .i64 b)).setCell ⟨w.heap.size, 4, none⟩ (.int .i64 imm))) /\ Hid (Hp V w.heap.size 70 (inC ⟨17, d, a, b, imm⟩)) /\ Hid (Hp V (w.heap.size + 1) 111 zeroC) /\ Below w.heap.size w V /\ w.heap.size + 2 <= V.heap.size := ⟨_, rfl, HiY.out.sets (inC ⟨17, d, a, b, imm⟩) 0, HsY.out.fars (by omega) (inC ⟨17, d, a, b, imm⟩) 0, hbY.trans (qAc (qAa _ (inC ⟨17, d, a, b, imm⟩) Y 0) (by omega) hbY.size), Nat.le_trans hzY (qAa _ (inC ⟨17, d, a, b, imm⟩) Y 0).size⟩
   rw [<- HV.out]
   clear HV HiY HsY
   refine hK.out _ _ (HP.out _ hbV.drew) (fun hHeld => ?_)
   clear hK KK
   try simp only [Act.put, p1q, p2q, p3q, p4q, p5q, p6q]
   refine wpAnyH_ready (rs := [17]) (by kernel_rfl) (by simp) ?_
   refine AllReadyH.cons rfl (fun KK hK => ?_) AllReadyH.nil
   rw [if_pos (by rfl)]
   have HTH : V.drew.there (w.heap.size + 1) 0 (stC r s).toArray.size := by rw [qAu r h8]; exact HsV.out.drew.there (by rw [qAe]; omega)
   refine wp_store_mid _ _ _ rfl _ _ (List.toArray _) rfl rfl HTH (sizeJA h8) (qAz r s) ?_
   have hbU : Below w.heap.size w (V.drew.setCells (w.heap.size + 1) 0 (stC r s)) := (hbV.drew).trans (qAc (qAa _ _ _ _) (by omega) (show w.heap.size <= V.heap.size by omega))
   refine hK.out _ _ (HP.out _ hbU) (fun hHeld => ?_)
   clear hK KK
   try simp only [Act.put, p1q, p2q, p3q, p4q, p5q, p6q]
   refine wpAnyH_done (by kernel_rfl) ?_ _
   go_wp2
   go_meet
   case rel => exact ⟨w.heap.size, (w.heap.size + 1), rfl, rfl, HiV.out.drew.fars (by omega) _ _, HsV.out.drew.box qAe h8, hbU, by omega, by omega, by omega⟩
  ·go_simp
   refine hK.out _ _ (HP.out _ ((Below.refl _ _).alloc (Nat.le_refl _) _).drew) (fun hHeld => ?_)
   clear hK KK
   try simp only [Act.put, p1q, p2q, p3q, p4q, p5q, p6q]
   refine wpAnyH_ready (rs := [14]) (by kernel_rfl) (by simp) ?_
   refine AllReadyH.cons rfl (fun KK hK => ?_) AllReadyH.nil
   rw [if_pos (by rfl)]
   go_simp
   obtain ⟨Y, HY, HiY, HsY, hbY, hzY⟩ : ∃ Y, Hid (Y = (w.alloc (Obj.cells #[.bool false, .int .i64 0, .int .u64 0, .int .u64 0, .int .i64 0, .int .i64 0, .int .u64 0, .int .u64 0, .int .i64 0, .int .i64 0, .int .u64 0, .int .u64 0, .int .i64 0, .int .i64 0, .int .u64 0, .int .u64 0, .int .i64 0, .int .i64 0, .int .u64 0, .int .u64 0, .int .i64 0, .int .i64 0, .int .u64 0, .int .u64 0, .int .i64 0, .int .i64 0, .int .u64 0, .int .u64 0, .int .i64 0, .int .i64 0, .int .u64 0, .int .u64 0, .int .i64 0] 111)).alloc (Obj.cells #[.int .i64 0, .int .i64 0, .int .i64 0, .int .i64 0, .int .i64 0] 70)) /\ Hid (Hp Y (w.heap.size + 1) 70 (inC ⟨0, 0, 0, 0, 0⟩)) /\ Hid (Hp Y w.heap.size 111 zeroC) /\ Below w.heap.size w Y /\ w.heap.size + 2 <= Y.heap.size := ⟨_, rfl, keepJ (by have := Hp.new (w.alloc (Obj.cells #[.bool false, .int .i64 0, .int .u64 0, .int .u64 0, .int .i64 0, .int .i64 0, .int .u64 0, .int .u64 0, .int .i64 0, .int .i64 0, .int .u64 0, .int .u64 0, .int .i64 0, .int .i64 0, .int .u64 0, .int .u64 0, .int .i64 0, .int .i64 0, .int .u64 0, .int .u64 0, .int .i64 0, .int .i64 0, .int .u64 0, .int .u64 0, .int .i64 0, .int .i64 0, .int .u64 0, .int .u64 0, .int .i64 0, .int .i64 0, .int .u64 0, .int .u64 0, .int .i64 0] 111)) (inC ⟨0, 0, 0, 0, 0⟩) 70; simpa [inC] using this), (Hp.new w zeroC _).alloc _, by go_grown, by simp⟩
   rw [<- HY.out]
   clear HY
   refine hK.out _ _ (HP.out _ hbY.drew) (fun hHeld => ?_)
   clear hK KK
   try simp only [Act.put, p1q, p2q, p3q, p4q, p5q, p6q]
   have n0 : Y.cell? ⟨(w.heap.size + 1), 0, none⟩ = some (.int .i64 0) := HiY.out.cell rfl
   have f0 := HiY.out.frozen 0
   have n1 : Y.cell? ⟨(w.heap.size + 1), 1, none⟩ = some (.int .i64 0) := HiY.out.cell rfl
   have f1 := HiY.out.frozen 1
   have n2 : Y.cell? ⟨(w.heap.size + 1), 2, none⟩ = some (.int .i64 0) := HiY.out.cell rfl
   have f2 := HiY.out.frozen 2
   have n3 : Y.cell? ⟨(w.heap.size + 1), 3, none⟩ = some (.int .i64 0) := HiY.out.cell rfl
   have f3 := HiY.out.frozen 3
   have n4 : Y.cell? ⟨(w.heap.size + 1), 4, none⟩ = some (.int .i64 0) := HiY.out.cell rfl
   have f4 := HiY.out.frozen 4
   refine wpAnyH_ready (rs := [16]) (by kernel_rfl) (by simp) ?_
   refine AllReadyH.cons rfl (fun KK hK => ?_) AllReadyH.nil
   rw [if_pos (by rfl)]
   go_simp
   clear n0 n1 n2 n3 n4 f0 f1 f2 f3 f4
   obtain ⟨V, HV, HiV, HsV, hbV, hzV⟩ : ∃ V, Hid (V = (((((Y.setCell ⟨(w.heap.size + 1), 0, none⟩ (.int .i64 17)).setCell ⟨(w.heap.size + 1), 1, none⟩ (.int .i64 d)).setCell ⟨(w.heap.size + 1), 2, none⟩ (.int .i64 a)).setCell ⟨(w.heap.size + 1), 3, none⟩ (.int .i64 b)).setCell ⟨(w.heap.size + 1), 4, none⟩ (.int .i64 imm))) /\ Hid (Hp V (w.heap.size + 1) 70 (inC ⟨17, d, a, b, imm⟩)) /\ Hid (Hp V w.heap.size 111 zeroC) /\ Below w.heap.size w V /\ w.heap.size + 2 <= V.heap.size := ⟨_, rfl, HiY.out.sets (inC ⟨17, d, a, b, imm⟩) 0, HsY.out.fars (by omega) (inC ⟨17, d, a, b, imm⟩) 0, hbY.trans (qAc (qAa _ (inC ⟨17, d, a, b, imm⟩) Y 0) (by omega) hbY.size), Nat.le_trans hzY (qAa _ (inC ⟨17, d, a, b, imm⟩) Y 0).size⟩
   rw [<- HV.out]
   clear HV HiY HsY
   refine hK.out _ _ (HP.out _ hbV.drew) (fun hHeld => ?_)
   clear hK KK
   try simp only [Act.put, p1q, p2q, p3q, p4q, p5q, p6q]
   refine wpAnyH_ready (rs := [17]) (by kernel_rfl) (by simp) ?_
   refine AllReadyH.cons rfl (fun KK hK => ?_) AllReadyH.nil
   rw [if_pos (by rfl)]
   have HTH : V.drew.there w.heap.size 0 (stC r s).toArray.size := by rw [qAu r h8]; exact HsV.out.drew.there (by rw [qAe]; omega)
   refine wp_store_mid _ _ _ rfl _ _ (List.toArray _) rfl rfl HTH (sizeJA h8) (qAz r s) ?_
   have hbU : Below w.heap.size w (V.drew.setCells w.heap.size 0 (stC r s)) := (hbV.drew).trans (qAc (qAa _ _ _ _) (by omega) (show w.heap.size <= V.heap.size by omega))
   refine hK.out _ _ (HP.out _ hbU) (fun hHeld => ?_)
   clear hK KK
   try simp only [Act.put, p1q, p2q, p3q, p4q, p5q, p6q]
   refine wpAnyH_done (by kernel_rfl) ?_ _
   go_wp2
   go_meet
   case rel => exact ⟨(w.heap.size + 1), w.heap.size, rfl, rfl, HiV.out.drew.fars (by omega) _ _, HsV.out.drew.box qAe h8, hbU, by omega, by omega, by omega⟩
set_option maxHeartbeats 3200000 in
theorem lleave_if18 (w0 w : World) (qb kb nm cb co ccap p : Nat) (vl : Value) (xs : List In) (ls : List Lp) (K : Kn) (h : Inq w0 w qb kb nm vl cb co ccap xs ls K) (hp : p < xs.length) (h64 : xs.length <= 64) (hM : MadeK nm K) (d a b imm : Int) (HI : Hid (nth xs p = ⟨18, d, a, b, imm⟩)) (r : Bool) (s : St) (HK : Hid (K.getD p kn0 = (r, s))) (f : Int) (l o : Bool) (HF : Hid (f = In.far ⟨18, d, a, b, imm⟩)) (HL : Hid (l = In.leads ⟨18, d, a, b, imm⟩)) (HO : Hid (o = In.on ⟨18, d, a, b, imm⟩)) (n2 : Nat) (hn2 : n2 < xs.length) (HN2 : Hid ((p : Int) + f = n2)) (hf : 0 <= f /\ f <= 64) (hn1 : p + 1 < xs.length) (HA : Hid (0 <= a /\ a <= 7)) (HB : Hid (b = 8 ∨ (0 <= b /\ b <= 7))) (r1 r2 : Bool) (s1 s2 : St) (HW1 : Hid (refS ⟨18, d, a, b, imm⟩ r s false = (r1, s1))) (HW2 : Hid (refS ⟨18, d, a, b, imm⟩ r s true = (r2, s2))) (HS3 : Hid (Made8 nm s1)) (HS4 : Hid (Made8 nm s2)) : Calls Tryz.prog 40 #[.pointer (some ⟨qb, 0, none⟩), .int .i64 p] w fun e w' => e = .returned (.tuple #[]) /\ Inq w0 w' qb kb nm vl cb co ccap xs ls (arrK (arrK K (p + 1) r1 s1) n2 r2 s2) := by
 obtain ⟨hat, hcb, hN, hcc⟩ := h.at hp
 rw [HI.out] at hat
 obtain ⟨c0, c1, c2, c3, c4⟩ := hat
 simp only at c0 c1 c2 c3 c4
 have hpI : (p : Int) < xs.length := by omega
 have h8 : s.length = 8 := by have := h.e8.at p; rw [HK.out] at this; exact this
 have hst : StAt w kb (p * 33) r s := h.k.state h.e8 (by rw [h.len]; exact hp) HK.out
 have hqz := h.q.lt
 have hkz := h.k.lt
 have hbz := h.b0.size
 have HP : Hid (∀ w', Below w.heap.size w w' -> w'.cell? ⟨qb, 1, none⟩ = some (.slice (some ⟨cb, co, none⟩) xs.length ccap) /\ w'.cell? ⟨qb, 3, none⟩ = some (.slice (some ⟨kb, 0, none⟩) xs.length xs.length) /\ w'.cell? ⟨cb, co + p * 5, none⟩ = some (.int .i64 18) /\ w'.cell? ⟨cb, co + p * 5 + 1, none⟩ = some (.int .i64 d) /\ w'.cell? ⟨cb, co + p * 5 + 2, none⟩ = some (.int .i64 a) /\ w'.cell? ⟨cb, co + p * 5 + 3, none⟩ = some (.int .i64 b) /\ w'.cell? ⟨cb, co + p * 5 + 4, none⟩ = some (.int .i64 imm) /\ StAt w' kb (p * 33) r s) := fun w' hb' => by
  have hA := At.below (i := ⟨18, d, a, b, imm⟩) ⟨c0, c1, c2, c3, c4⟩ hb' (by omega)
  exact ⟨(h.q.below hb' hqz).cell rfl, (h.q.below hb' hqz).cell rfl, hA.1, hA.2.1, hA.2.2.1, hA.2.2.2.1, hA.2.2.2.2, hst.below hb' hkz⟩
 clear c0 c1 c2 c3 c4 hst
 have hs8 : Made8 nm s := by have := hM.at p; rw [HK.out] at this; exact this
 have HM := keepJ hM
 have HS8 := keepJ hs8
 have HSZ := keepJ (sizeJ (r := r) h8)
 have hp64 : (p : Int) < 64 := by omega
 have HN1 : Hid ((p : Int) + 1 = ((p + 1 : Nat) : Int)) := by show _ = _; omega
 clear hs8 hM
 go_enter Tryz.func40, Tryz.ntmps40
 go_wp2_with (fail)
 go_cut [4, 5] from 9 (fun v4 v5 wc => Taken2 w wc ⟨18, d, a, b, imm⟩ r s v4 v5)
 case rest =>
  obtain ⟨ib, sb, rfl, rfl, hiC, hsC, hbC, hi1, hs1, his⟩ := hcut
  have HQ := keepJ (h.below hbC)
  have HiC := keepJ hiC
  have HsC := keepJ hsC
  obtain ⟨y0, y1, y2, y3, y4⟩ := id hiC.inst
  have hzi := hiC.lt
  have hzs := hsC.lt
  have hkb : kb < wc.heap.size := HQ.out.k.lt
  have hikb : ib ≠ kb := by omega
  have hskb : sb ≠ kb := by omega
  clear hiC hsC HP h
  go_wp2_with (first
   | (go_at_call 45; go_must (refine (goes_one (i := ⟨18, d, a, b, imm⟩) (show Hid _ from rfl) HF HL HO _).mono ?_); rintro e w1 ⟨rfl, hb1⟩; go_must (have HQ1 := keepJ (HQ.out.below hb1); have HL1 := keepJ (HsC.out.below hb1 hzs).oneR; obtain ⟨x0, x1, x2, x3, x4⟩ := Box.below HiC.out.inst hb1 hzi; have hz1 := hb1.size; clear y0 y1 y2 y3 y4))
   | ((with_reducible refine wpList_load_mid ?qa1 111 (.tmp 5) ?qb1 sb 0 ?qc1 (stC r s) _ HL1.out Tryz.underlying111 ?qd1 HSZ.out ?qe1); (case qa1 => rfl); (case qb1 => rfl); (case qc1 => rfl); (case qd1 => rfl))
   | (go_at_call 67; have hq1 := HL1; go_must (refine (qBq (i := ⟨18, d, a, b, imm⟩) w1 HW1 HS8.out HA.out HB.out).mono ?_); rintro e w2 ⟨rfl, hb2⟩; go_must (have HQ2 := keepJ (HQ1.out.below hb2); have Hi2 := keepJ ((HiC.out.below hb1 hzi).below hb2 (by omega)); have Hs2 := keepJ ((HsC.out.below hb1 hzs).below hb2 (by omega)); clear hq1 HL1 hb2))
   | (go_at_call 37; have hq0 := HQ2; clear hq0; go_must (refine (qBc HQ2.out HN1 hn1 r1 HS3.out HM.out).mono ?_); rintro e w3 ⟨rfl, hg3, hq3, hm3⟩; go_must (have HQ3 := keepJ hq3; have HM3 := keepJ hm3; have Hi3 := keepJ (Hi2.out.grown hg3 (fun e => hikb (by injection e))); have Hs3 := keepJ (Hs2.out.grown hg3 (fun e => hskb (by injection e))); have HL3 := keepJ Hs3.out.oneR; have hzi3 := Hi3.out.lt; have hzs3 := Hs3.out.lt; obtain ⟨z0, z1, z2, z3, z4⟩ := Hi3.out.inst; clear hg3 hq3 hm3 HQ2 x0 x1 x2 x3 x4))
   | ((with_reducible refine wpList_load_mid ?qa3 111 (.tmp 5) ?qb3 sb 0 ?qc3 (stC r s) _ HL3.out Tryz.underlying111 ?qd3 HSZ.out ?qe3); (case qa3 => rfl); (case qb3 => rfl); (case qc3 => rfl); (case qd3 => rfl))
   | (go_at_call 67; go_must (refine (qBq (i := ⟨18, d, a, b, imm⟩) w3 HW2 HS8.out HA.out HB.out).mono ?_); rintro e w4 ⟨rfl, hb4⟩; go_must (have HQ4 := keepJ (HQ3.out.below hb4); clear HL3 hb4))
   | (go_at_call 37; go_must (refine (qBc HQ4.out HN2 hn2 r2 HS4.out HM3.out).mono ?_); rintro e w5 ⟨rfl, hg5, hq5, hm5⟩; go_must (have HQ5 := keepJ hq5; clear hg5 hq5 hm5))
   | fail)
  exact bodyPost_end (results_none rfl _ _ _) rfl ⟨rfl, HQ5.out⟩
 case first =>
  refine wp_region_held_drew (S := fun w' => w'.cell? ⟨qb, 1, none⟩ = some (.slice (some ⟨cb, co, none⟩) xs.length ccap) /\ w'.cell? ⟨qb, 3, none⟩ = some (.slice (some ⟨kb, 0, none⟩) xs.length xs.length) /\ w'.cell? ⟨cb, co + p * 5, none⟩ = some (.int .i64 18) /\ w'.cell? ⟨cb, co + p * 5 + 1, none⟩ = some (.int .i64 d) /\ w'.cell? ⟨cb, co + p * 5 + 2, none⟩ = some (.int .i64 a) /\ w'.cell? ⟨cb, co + p * 5 + 3, none⟩ = some (.int .i64 b) /\ w'.cell? ⟨cb, co + p * 5 + 4, none⟩ = some (.int .i64 imm) /\ StAt w' kb (p * 33) r s) (by kernel_rfl) (HP.out _ (Below.refl _ _).drew) (fun hHeld => ?_)
  refine wpAnyH_take (i := 0) (v := ?v66) rfl (by kernel_rfl) (by kernel_rfl) (by kernel_rfl) (fun _ _ _ h => h) (Or.inl ⟨by rfl, ?hy66⟩) (by assumption) ?rest66
  case hy66 => (intro wy hSw; (try dsimp only at hSw); go_simp; (first | done | with_reducible rfl))
  try simp only [Act.put, p1q, p2q, p3q, p4q, p5q, p6q]
  refine wpAnyH_take (i := 1) (v := ?v67) rfl (by kernel_rfl) (by kernel_rfl) (by kernel_rfl) (fun _ _ _ h => h) (Or.inl ⟨by rfl, ?hy67⟩) (by assumption) ?rest67
  case hy67 => (intro wy hSw; (try dsimp only at hSw); go_simp; (first | done | with_reducible rfl))
  try simp only [Act.put, p1q, p2q, p3q, p4q, p5q, p6q]
  refine wpAnyH_take (i := 2) (v := ?v68) rfl (by kernel_rfl) (by kernel_rfl) (by kernel_rfl) (fun _ _ _ h => h) (Or.inl ⟨by rfl, ?hy68⟩) (by assumption) ?rest68
  case hy68 => (intro wy hSw; (try dsimp only at hSw); go_simp; (first | done | with_reducible rfl))
  try simp only [Act.put, p1q, p2q, p3q, p4q, p5q, p6q]
  refine wpAnyH_take (i := 3) (v := ?v69) rfl (by kernel_rfl) (by kernel_rfl) (by kernel_rfl) (fun _ _ _ h => h) (Or.inl ⟨by rfl, ?hy69⟩) (by assumption) ?rest69
  case hy69 => (intro wy hSw; (try dsimp only at hSw); go_simp; (first | done | with_reducible rfl))
  try simp only [Act.put, p1q, p2q, p3q, p4q, p5q, p6q]
  refine wpAnyH_take (i := 4) (v := ?v70) rfl (by kernel_rfl) (by kernel_rfl) (by kernel_rfl) (fun _ _ _ h => h) (Or.inl ⟨by rfl, ?hy70⟩) (by assumption) ?rest70
  case hy70 => (intro wy hSw; (try dsimp only at hSw); go_simp; (first | done | with_reducible rfl))
  try simp only [Act.put, p1q, p2q, p3q, p4q, p5q, p6q]
  refine wpAnyH_take (i := 5) (v := ?v71) rfl (by kernel_rfl) (by kernel_rfl) (by kernel_rfl) (fun _ _ _ h => h) (Or.inl ⟨by rfl, ?hy71⟩) (by assumption) ?rest71
  case hy71 => (intro wy hSw; (try dsimp only at hSw); go_simp; (first | done | with_reducible rfl))
  try simp only [Act.put, p1q, p2q, p3q, p4q, p5q, p6q]
  refine wpAnyH_take (i := 6) (v := ?v72) rfl (by kernel_rfl) (by kernel_rfl) (by kernel_rfl) (fun _ _ _ h => h) (Or.inl ⟨by rfl, ?hy72⟩) (by assumption) ?rest72
  case hy72 => (intro wy hSw; (try dsimp only at hSw); go_simp; (first | done | with_reducible rfl))
  try simp only [Act.put, p1q, p2q, p3q, p4q, p5q, p6q]
  refine wpAnyH_take (i := 7) (v := ?v73) rfl (by kernel_rfl) (by kernel_rfl) (by kernel_rfl) (fun _ _ _ h => h) (Or.inl ⟨by rfl, ?hy73⟩) (by assumption) ?rest73
  case hy73 => (intro wy hSw; (try dsimp only at hSw); go_simp; (first | done | with_reducible rfl))
  try simp only [Act.put, p1q, p2q, p3q, p4q, p5q, p6q]
  refine wpAnyH_take (i := 8) (v := ?v74) rfl (by kernel_rfl) (by kernel_rfl) (by kernel_rfl) (fun _ _ _ h => h) (Or.inl ⟨by rfl, ?hy74⟩) (by assumption) ?rest74
  case hy74 => (intro wy hSw; (try dsimp only at hSw); go_simp; (first | done | with_reducible rfl))
  try simp only [Act.put, p1q, p2q, p3q, p4q, p5q, p6q]
  refine wpAnyH_take (i := 9) (v := ?v75) rfl (by kernel_rfl) (by kernel_rfl) (by kernel_rfl) (fun _ _ _ h => h) (Or.inl ⟨by rfl, ?hy75⟩) (by assumption) ?rest75
  case hy75 => (intro wy hSw; (try dsimp only at hSw); go_simp; (first | done | with_reducible rfl))
  try simp only [Act.put, p1q, p2q, p3q, p4q, p5q, p6q]
  refine wpAnyH_take (i := 10) (v := ?v76) rfl (by kernel_rfl) (by kernel_rfl) (by kernel_rfl) (fun _ _ _ h => h) (Or.inl ⟨by rfl, ?hy76⟩) (by assumption) ?rest76
  case hy76 => (intro wy hSw; (try dsimp only at hSw); go_simp; (first | done | with_reducible rfl))
  try simp only [Act.put, p1q, p2q, p3q, p4q, p5q, p6q]
  refine wpAnyH_take (i := 11) (v := ?v77) rfl (by kernel_rfl) (by kernel_rfl) (by kernel_rfl) (fun _ _ _ h => h) (Or.inl ⟨by rfl, ?hy77⟩) (by assumption) ?rest77
  case hy77 => (intro wy hSw; (try dsimp only at hSw); go_simp; (first | done | with_reducible rfl))
  try simp only [Act.put, p1q, p2q, p3q, p4q, p5q, p6q]
  refine wpAnyH_take (i := 12) (v := ?v78) rfl (by kernel_rfl) (by kernel_rfl) (by kernel_rfl) (fun _ _ _ h => h) (Or.inl ⟨by rfl, ?hy78⟩) (by assumption) ?rest78
  case hy78 => (intro wy hSw; (try dsimp only at hSw); go_simp; (first | done | with_reducible rfl))
  try simp only [Act.put, p1q, p2q, p3q, p4q, p5q, p6q]
  refine wpAnyH_take (i := 13) rfl (by kernel_rfl) (by kernel_rfl) (by kernel_rfl) (fun _ _ _ h => h) (yieldsIf_load_mid (by rfl) _ _ rfl _ _ rfl (stC r s) _ (fun w h => h.2.2.2.2.2.2.2) Tryz.underlying111 rfl (sizeJ h8)) (by assumption) ?_
  try simp only [Act.put, p1q, p2q, p3q, p4q, p5q, p6q]
  refine wpAnyH_ready (rs := [14, 15]) (by kernel_rfl) (by simp) ?_
  refine AllReadyH.cons rfl (fun KK hK => ?_) (AllReadyH.cons rfl (fun KK hK => ?_) AllReadyH.nil) <;> rw [if_pos (by rfl)]
  ·go_simp
   refine hK.out _ _ (HP.out _ ((Below.refl _ _).alloc (Nat.le_refl _) _).drew) (fun hHeld => ?_)
   clear hK KK
   try simp only [Act.put, p1q, p2q, p3q, p4q, p5q, p6q]
   refine wpAnyH_ready (rs := [15]) (by kernel_rfl) (by simp) ?_
   refine AllReadyH.cons rfl (fun KK hK => ?_) AllReadyH.nil
   rw [if_pos (by rfl)]
   go_simp
   obtain ⟨Y, HY, HiY, HsY, hbY, hzY⟩ : ∃ Y, Hid (Y = (w.alloc (Obj.cells #[.int .i64 0, .int .i64 0, .int .i64 0, .int .i64 0, .int .i64 0] 70)).alloc (Obj.cells #[.bool false, .int .i64 0, .int .u64 0, .int .u64 0, .int .i64 0, .int .i64 0, .int .u64 0, .int .u64 0, .int .i64 0, .int .i64 0, .int .u64 0, .int .u64 0, .int .i64 0, .int .i64 0, .int .u64 0, .int .u64 0, .int .i64 0, .int .i64 0, .int .u64 0, .int .u64 0, .int .i64 0, .int .i64 0, .int .u64 0, .int .u64 0, .int .i64 0, .int .i64 0, .int .u64 0, .int .u64 0, .int .i64 0, .int .i64 0, .int .u64 0, .int .u64 0, .int .i64 0] 111)) /\ Hid (Hp Y w.heap.size 70 (inC ⟨0, 0, 0, 0, 0⟩)) /\ Hid (Hp Y (w.heap.size + 1) 111 zeroC) /\ Below w.heap.size w Y /\ w.heap.size + 2 <= Y.heap.size := ⟨_, rfl, (Hp.new w (inC ⟨0, 0, 0, 0, 0⟩) _).alloc _, keepJ (by have := Hp.new (w.alloc (Obj.cells #[.int .i64 0, .int .i64 0, .int .i64 0, .int .i64 0, .int .i64 0] 70)) zeroC 111; simpa [zeroC] using this), by go_grown, by simp⟩
   rw [<- HY.out]
   clear HY
   refine hK.out _ _ (HP.out _ hbY.drew) (fun hHeld => ?_)
   clear hK KK
   try simp only [Act.put, p1q, p2q, p3q, p4q, p5q, p6q]
   have n0 : Y.cell? ⟨w.heap.size, 0, none⟩ = some (.int .i64 0) := HiY.out.cell rfl
   have f0 := HiY.out.frozen 0
   have n1 : Y.cell? ⟨w.heap.size, 1, none⟩ = some (.int .i64 0) := HiY.out.cell rfl
   have f1 := HiY.out.frozen 1
   have n2 : Y.cell? ⟨w.heap.size, 2, none⟩ = some (.int .i64 0) := HiY.out.cell rfl
   have f2 := HiY.out.frozen 2
   have n3 : Y.cell? ⟨w.heap.size, 3, none⟩ = some (.int .i64 0) := HiY.out.cell rfl
   have f3 := HiY.out.frozen 3
   have n4 : Y.cell? ⟨w.heap.size, 4, none⟩ = some (.int .i64 0) := HiY.out.cell rfl
   have f4 := HiY.out.frozen 4
   refine wpAnyH_ready (rs := [16]) (by kernel_rfl) (by simp) ?_
   refine AllReadyH.cons rfl (fun KK hK => ?_) AllReadyH.nil
   rw [if_pos (by rfl)]
   go_simp
   clear n0 n1 n2 n3 n4 f0 f1 f2 f3 f4
   obtain ⟨V, HV, HiV, HsV, hbV, hzV⟩ : ∃ V, Hid (V = (((((Y.setCell ⟨w.heap.size, 0, none⟩ (.int .i64 18)).setCell ⟨w.heap.size, 1, none⟩ (.int .i64 d)).setCell ⟨w.heap.size, 2, none⟩ (.int .i64 a)).setCell ⟨w.heap.size, 3, none⟩ (.int .i64 b)).setCell ⟨w.heap.size, 4, none⟩ (.int .i64 imm))) /\ Hid (Hp V w.heap.size 70 (inC ⟨18, d, a, b, imm⟩)) /\ Hid (Hp V (w.heap.size + 1) 111 zeroC) /\ Below w.heap.size w V /\ w.heap.size + 2 <= V.heap.size := ⟨_, rfl, HiY.out.sets (inC ⟨18, d, a, b, imm⟩) 0, HsY.out.fars (by omega) (inC ⟨18, d, a, b, imm⟩) 0, hbY.trans (qAc (qAa _ (inC ⟨18, d, a, b, imm⟩) Y 0) (by omega) hbY.size), Nat.le_trans hzY (qAa _ (inC ⟨18, d, a, b, imm⟩) Y 0).size⟩
   rw [<- HV.out]
   clear HV HiY HsY
   refine hK.out _ _ (HP.out _ hbV.drew) (fun hHeld => ?_)
   clear hK KK
   try simp only [Act.put, p1q, p2q, p3q, p4q, p5q, p6q]
   refine wpAnyH_ready (rs := [17]) (by kernel_rfl) (by simp) ?_
   refine AllReadyH.cons rfl (fun KK hK => ?_) AllReadyH.nil
   rw [if_pos (by rfl)]
   have HTH : V.drew.there (w.heap.size + 1) 0 (stC r s).toArray.size := by rw [qAu r h8]; exact HsV.out.drew.there (by rw [qAe]; omega)
   refine wp_store_mid _ _ _ rfl _ _ (List.toArray _) rfl rfl HTH (sizeJA h8) (qAz r s) ?_
   have hbU : Below w.heap.size w (V.drew.setCells (w.heap.size + 1) 0 (stC r s)) := (hbV.drew).trans (qAc (qAa _ _ _ _) (by omega) (show w.heap.size <= V.heap.size by omega))
   refine hK.out _ _ (HP.out _ hbU) (fun hHeld => ?_)
   clear hK KK
   try simp only [Act.put, p1q, p2q, p3q, p4q, p5q, p6q]
   refine wpAnyH_done (by kernel_rfl) ?_ _
   go_wp2
   go_meet
   case rel => exact ⟨w.heap.size, (w.heap.size + 1), rfl, rfl, HiV.out.drew.fars (by omega) _ _, HsV.out.drew.box qAe h8, hbU, by omega, by omega, by omega⟩
  ·go_simp
   refine hK.out _ _ (HP.out _ ((Below.refl _ _).alloc (Nat.le_refl _) _).drew) (fun hHeld => ?_)
   clear hK KK
   try simp only [Act.put, p1q, p2q, p3q, p4q, p5q, p6q]
   refine wpAnyH_ready (rs := [14]) (by kernel_rfl) (by simp) ?_
   refine AllReadyH.cons rfl (fun KK hK => ?_) AllReadyH.nil
   rw [if_pos (by rfl)]
   go_simp
   obtain ⟨Y, HY, HiY, HsY, hbY, hzY⟩ : ∃ Y, Hid (Y = (w.alloc (Obj.cells #[.bool false, .int .i64 0, .int .u64 0, .int .u64 0, .int .i64 0, .int .i64 0, .int .u64 0, .int .u64 0, .int .i64 0, .int .i64 0, .int .u64 0, .int .u64 0, .int .i64 0, .int .i64 0, .int .u64 0, .int .u64 0, .int .i64 0, .int .i64 0, .int .u64 0, .int .u64 0, .int .i64 0, .int .i64 0, .int .u64 0, .int .u64 0, .int .i64 0, .int .i64 0, .int .u64 0, .int .u64 0, .int .i64 0, .int .i64 0, .int .u64 0, .int .u64 0, .int .i64 0] 111)).alloc (Obj.cells #[.int .i64 0, .int .i64 0, .int .i64 0, .int .i64 0, .int .i64 0] 70)) /\ Hid (Hp Y (w.heap.size + 1) 70 (inC ⟨0, 0, 0, 0, 0⟩)) /\ Hid (Hp Y w.heap.size 111 zeroC) /\ Below w.heap.size w Y /\ w.heap.size + 2 <= Y.heap.size := ⟨_, rfl, keepJ (by have := Hp.new (w.alloc (Obj.cells #[.bool false, .int .i64 0, .int .u64 0, .int .u64 0, .int .i64 0, .int .i64 0, .int .u64 0, .int .u64 0, .int .i64 0, .int .i64 0, .int .u64 0, .int .u64 0, .int .i64 0, .int .i64 0, .int .u64 0, .int .u64 0, .int .i64 0, .int .i64 0, .int .u64 0, .int .u64 0, .int .i64 0, .int .i64 0, .int .u64 0, .int .u64 0, .int .i64 0, .int .i64 0, .int .u64 0, .int .u64 0, .int .i64 0, .int .i64 0, .int .u64 0, .int .u64 0, .int .i64 0] 111)) (inC ⟨0, 0, 0, 0, 0⟩) 70; simpa [inC] using this), (Hp.new w zeroC _).alloc _, by go_grown, by simp⟩
   rw [<- HY.out]
   clear HY
   refine hK.out _ _ (HP.out _ hbY.drew) (fun hHeld => ?_)
   clear hK KK
   try simp only [Act.put, p1q, p2q, p3q, p4q, p5q, p6q]
   have n0 : Y.cell? ⟨(w.heap.size + 1), 0, none⟩ = some (.int .i64 0) := HiY.out.cell rfl
   have f0 := HiY.out.frozen 0
   have n1 : Y.cell? ⟨(w.heap.size + 1), 1, none⟩ = some (.int .i64 0) := HiY.out.cell rfl
   have f1 := HiY.out.frozen 1
   have n2 : Y.cell? ⟨(w.heap.size + 1), 2, none⟩ = some (.int .i64 0) := HiY.out.cell rfl
   have f2 := HiY.out.frozen 2
   have n3 : Y.cell? ⟨(w.heap.size + 1), 3, none⟩ = some (.int .i64 0) := HiY.out.cell rfl
   have f3 := HiY.out.frozen 3
   have n4 : Y.cell? ⟨(w.heap.size + 1), 4, none⟩ = some (.int .i64 0) := HiY.out.cell rfl
   have f4 := HiY.out.frozen 4
   refine wpAnyH_ready (rs := [16]) (by kernel_rfl) (by simp) ?_
   refine AllReadyH.cons rfl (fun KK hK => ?_) AllReadyH.nil
   rw [if_pos (by rfl)]
   go_simp
   clear n0 n1 n2 n3 n4 f0 f1 f2 f3 f4
   obtain ⟨V, HV, HiV, HsV, hbV, hzV⟩ : ∃ V, Hid (V = (((((Y.setCell ⟨(w.heap.size + 1), 0, none⟩ (.int .i64 18)).setCell ⟨(w.heap.size + 1), 1, none⟩ (.int .i64 d)).setCell ⟨(w.heap.size + 1), 2, none⟩ (.int .i64 a)).setCell ⟨(w.heap.size + 1), 3, none⟩ (.int .i64 b)).setCell ⟨(w.heap.size + 1), 4, none⟩ (.int .i64 imm))) /\ Hid (Hp V (w.heap.size + 1) 70 (inC ⟨18, d, a, b, imm⟩)) /\ Hid (Hp V w.heap.size 111 zeroC) /\ Below w.heap.size w V /\ w.heap.size + 2 <= V.heap.size := ⟨_, rfl, HiY.out.sets (inC ⟨18, d, a, b, imm⟩) 0, HsY.out.fars (by omega) (inC ⟨18, d, a, b, imm⟩) 0, hbY.trans (qAc (qAa _ (inC ⟨18, d, a, b, imm⟩) Y 0) (by omega) hbY.size), Nat.le_trans hzY (qAa _ (inC ⟨18, d, a, b, imm⟩) Y 0).size⟩
   rw [<- HV.out]
   clear HV HiY HsY
   refine hK.out _ _ (HP.out _ hbV.drew) (fun hHeld => ?_)
   clear hK KK
   try simp only [Act.put, p1q, p2q, p3q, p4q, p5q, p6q]
   refine wpAnyH_ready (rs := [17]) (by kernel_rfl) (by simp) ?_
   refine AllReadyH.cons rfl (fun KK hK => ?_) AllReadyH.nil
   rw [if_pos (by rfl)]
   have HTH : V.drew.there w.heap.size 0 (stC r s).toArray.size := by rw [qAu r h8]; exact HsV.out.drew.there (by rw [qAe]; omega)
   refine wp_store_mid _ _ _ rfl _ _ (List.toArray _) rfl rfl HTH (sizeJA h8) (qAz r s) ?_
   have hbU : Below w.heap.size w (V.drew.setCells w.heap.size 0 (stC r s)) := (hbV.drew).trans (qAc (qAa _ _ _ _) (by omega) (show w.heap.size <= V.heap.size by omega))
   refine hK.out _ _ (HP.out _ hbU) (fun hHeld => ?_)
   clear hK KK
   try simp only [Act.put, p1q, p2q, p3q, p4q, p5q, p6q]
   refine wpAnyH_done (by kernel_rfl) ?_ _
   go_wp2
   go_meet
   case rel => exact ⟨(w.heap.size + 1), w.heap.size, rfl, rfl, HiV.out.drew.fars (by omega) _ _, HsV.out.drew.box qAe h8, hbU, by omega, by omega, by omega⟩
set_option maxHeartbeats 3200000 in
theorem lleave_if19 (w0 w : World) (qb kb nm cb co ccap p : Nat) (vl : Value) (xs : List In) (ls : List Lp) (K : Kn) (h : Inq w0 w qb kb nm vl cb co ccap xs ls K) (hp : p < xs.length) (h64 : xs.length <= 64) (hM : MadeK nm K) (d a b imm : Int) (HI : Hid (nth xs p = ⟨19, d, a, b, imm⟩)) (r : Bool) (s : St) (HK : Hid (K.getD p kn0 = (r, s))) (f : Int) (l o : Bool) (HF : Hid (f = In.far ⟨19, d, a, b, imm⟩)) (HL : Hid (l = In.leads ⟨19, d, a, b, imm⟩)) (HO : Hid (o = In.on ⟨19, d, a, b, imm⟩)) (n2 : Nat) (hn2 : n2 < xs.length) (HN2 : Hid ((p : Int) + f = n2)) (hf : 0 <= f /\ f <= 64) (hn1 : p + 1 < xs.length) (HA : Hid (0 <= a /\ a <= 7)) (HB : Hid (b = 8 ∨ (0 <= b /\ b <= 7))) (r1 r2 : Bool) (s1 s2 : St) (HW1 : Hid (refS ⟨19, d, a, b, imm⟩ r s false = (r1, s1))) (HW2 : Hid (refS ⟨19, d, a, b, imm⟩ r s true = (r2, s2))) (HS3 : Hid (Made8 nm s1)) (HS4 : Hid (Made8 nm s2)) : Calls Tryz.prog 40 #[.pointer (some ⟨qb, 0, none⟩), .int .i64 p] w fun e w' => e = .returned (.tuple #[]) /\ Inq w0 w' qb kb nm vl cb co ccap xs ls (arrK (arrK K (p + 1) r1 s1) n2 r2 s2) := by
 obtain ⟨hat, hcb, hN, hcc⟩ := h.at hp
 rw [HI.out] at hat
 obtain ⟨c0, c1, c2, c3, c4⟩ := hat
 simp only at c0 c1 c2 c3 c4
 have hpI : (p : Int) < xs.length := by omega
 have h8 : s.length = 8 := by have := h.e8.at p; rw [HK.out] at this; exact this
 have hst : StAt w kb (p * 33) r s := h.k.state h.e8 (by rw [h.len]; exact hp) HK.out
 have hqz := h.q.lt
 have hkz := h.k.lt
 have hbz := h.b0.size
 have HP : Hid (∀ w', Below w.heap.size w w' -> w'.cell? ⟨qb, 1, none⟩ = some (.slice (some ⟨cb, co, none⟩) xs.length ccap) /\ w'.cell? ⟨qb, 3, none⟩ = some (.slice (some ⟨kb, 0, none⟩) xs.length xs.length) /\ w'.cell? ⟨cb, co + p * 5, none⟩ = some (.int .i64 19) /\ w'.cell? ⟨cb, co + p * 5 + 1, none⟩ = some (.int .i64 d) /\ w'.cell? ⟨cb, co + p * 5 + 2, none⟩ = some (.int .i64 a) /\ w'.cell? ⟨cb, co + p * 5 + 3, none⟩ = some (.int .i64 b) /\ w'.cell? ⟨cb, co + p * 5 + 4, none⟩ = some (.int .i64 imm) /\ StAt w' kb (p * 33) r s) := fun w' hb' => by
  have hA := At.below (i := ⟨19, d, a, b, imm⟩) ⟨c0, c1, c2, c3, c4⟩ hb' (by omega)
  exact ⟨(h.q.below hb' hqz).cell rfl, (h.q.below hb' hqz).cell rfl, hA.1, hA.2.1, hA.2.2.1, hA.2.2.2.1, hA.2.2.2.2, hst.below hb' hkz⟩
 clear c0 c1 c2 c3 c4 hst
 have hs8 : Made8 nm s := by have := hM.at p; rw [HK.out] at this; exact this
 have HM := keepJ hM
 have HS8 := keepJ hs8
 have HSZ := keepJ (sizeJ (r := r) h8)
 have hp64 : (p : Int) < 64 := by omega
 have HN1 : Hid ((p : Int) + 1 = ((p + 1 : Nat) : Int)) := by show _ = _; omega
 clear hs8 hM
 go_enter Tryz.func40, Tryz.ntmps40
 go_wp2_with (fail)
 go_cut [4, 5] from 9 (fun v4 v5 wc => Taken2 w wc ⟨19, d, a, b, imm⟩ r s v4 v5)
 case rest =>
  obtain ⟨ib, sb, rfl, rfl, hiC, hsC, hbC, hi1, hs1, his⟩ := hcut
  have HQ := keepJ (h.below hbC)
  have HiC := keepJ hiC
  have HsC := keepJ hsC
  obtain ⟨y0, y1, y2, y3, y4⟩ := id hiC.inst
  have hzi := hiC.lt
  have hzs := hsC.lt
  have hkb : kb < wc.heap.size := HQ.out.k.lt
  have hikb : ib ≠ kb := by omega
  have hskb : sb ≠ kb := by omega
  clear hiC hsC HP h
  go_wp2_with (first
   | (go_at_call 45; go_must (refine (goes_one (i := ⟨19, d, a, b, imm⟩) (show Hid _ from rfl) HF HL HO _).mono ?_); rintro e w1 ⟨rfl, hb1⟩; go_must (have HQ1 := keepJ (HQ.out.below hb1); have HL1 := keepJ (HsC.out.below hb1 hzs).oneR; obtain ⟨x0, x1, x2, x3, x4⟩ := Box.below HiC.out.inst hb1 hzi; have hz1 := hb1.size; clear y0 y1 y2 y3 y4))
   | ((with_reducible refine wpList_load_mid ?qa1 111 (.tmp 5) ?qb1 sb 0 ?qc1 (stC r s) _ HL1.out Tryz.underlying111 ?qd1 HSZ.out ?qe1); (case qa1 => rfl); (case qb1 => rfl); (case qc1 => rfl); (case qd1 => rfl))
   | (go_at_call 67; have hq1 := HL1; go_must (refine (qBq (i := ⟨19, d, a, b, imm⟩) w1 HW1 HS8.out HA.out HB.out).mono ?_); rintro e w2 ⟨rfl, hb2⟩; go_must (have HQ2 := keepJ (HQ1.out.below hb2); have Hi2 := keepJ ((HiC.out.below hb1 hzi).below hb2 (by omega)); have Hs2 := keepJ ((HsC.out.below hb1 hzs).below hb2 (by omega)); clear hq1 HL1 hb2))
   | (go_at_call 37; have hq0 := HQ2; clear hq0; go_must (refine (qBc HQ2.out HN1 hn1 r1 HS3.out HM.out).mono ?_); rintro e w3 ⟨rfl, hg3, hq3, hm3⟩; go_must (have HQ3 := keepJ hq3; have HM3 := keepJ hm3; have Hi3 := keepJ (Hi2.out.grown hg3 (fun e => hikb (by injection e))); have Hs3 := keepJ (Hs2.out.grown hg3 (fun e => hskb (by injection e))); have HL3 := keepJ Hs3.out.oneR; have hzi3 := Hi3.out.lt; have hzs3 := Hs3.out.lt; obtain ⟨z0, z1, z2, z3, z4⟩ := Hi3.out.inst; clear hg3 hq3 hm3 HQ2 x0 x1 x2 x3 x4))
   | ((with_reducible refine wpList_load_mid ?qa3 111 (.tmp 5) ?qb3 sb 0 ?qc3 (stC r s) _ HL3.out Tryz.underlying111 ?qd3 HSZ.out ?qe3); (case qa3 => rfl); (case qb3 => rfl); (case qc3 => rfl); (case qd3 => rfl))
   | (go_at_call 67; go_must (refine (qBq (i := ⟨19, d, a, b, imm⟩) w3 HW2 HS8.out HA.out HB.out).mono ?_); rintro e w4 ⟨rfl, hb4⟩; go_must (have HQ4 := keepJ (HQ3.out.below hb4); clear HL3 hb4))
   | (go_at_call 37; go_must (refine (qBc HQ4.out HN2 hn2 r2 HS4.out HM3.out).mono ?_); rintro e w5 ⟨rfl, hg5, hq5, hm5⟩; go_must (have HQ5 := keepJ hq5; clear hg5 hq5 hm5))
   | fail)
  exact bodyPost_end (results_none rfl _ _ _) rfl ⟨rfl, HQ5.out⟩
 case first =>
  refine wp_region_held_drew (S := fun w' => w'.cell? ⟨qb, 1, none⟩ = some (.slice (some ⟨cb, co, none⟩) xs.length ccap) /\ w'.cell? ⟨qb, 3, none⟩ = some (.slice (some ⟨kb, 0, none⟩) xs.length xs.length) /\ w'.cell? ⟨cb, co + p * 5, none⟩ = some (.int .i64 19) /\ w'.cell? ⟨cb, co + p * 5 + 1, none⟩ = some (.int .i64 d) /\ w'.cell? ⟨cb, co + p * 5 + 2, none⟩ = some (.int .i64 a) /\ w'.cell? ⟨cb, co + p * 5 + 3, none⟩ = some (.int .i64 b) /\ w'.cell? ⟨cb, co + p * 5 + 4, none⟩ = some (.int .i64 imm) /\ StAt w' kb (p * 33) r s) (by kernel_rfl) (HP.out _ (Below.refl _ _).drew) (fun hHeld => ?_)
  refine wpAnyH_take (i := 0) (v := ?v79) rfl (by kernel_rfl) (by kernel_rfl) (by kernel_rfl) (fun _ _ _ h => h) (Or.inl ⟨by rfl, ?hy79⟩) (by assumption) ?rest79
  case hy79 => (intro wy hSw; (try dsimp only at hSw); go_simp; (first | done | with_reducible rfl))
  try simp only [Act.put, p1q, p2q, p3q, p4q, p5q, p6q]
  refine wpAnyH_take (i := 1) (v := ?v80) rfl (by kernel_rfl) (by kernel_rfl) (by kernel_rfl) (fun _ _ _ h => h) (Or.inl ⟨by rfl, ?hy80⟩) (by assumption) ?rest80
  case hy80 => (intro wy hSw; (try dsimp only at hSw); go_simp; (first | done | with_reducible rfl))
  try simp only [Act.put, p1q, p2q, p3q, p4q, p5q, p6q]
  refine wpAnyH_take (i := 2) (v := ?v81) rfl (by kernel_rfl) (by kernel_rfl) (by kernel_rfl) (fun _ _ _ h => h) (Or.inl ⟨by rfl, ?hy81⟩) (by assumption) ?rest81
  case hy81 => (intro wy hSw; (try dsimp only at hSw); go_simp; (first | done | with_reducible rfl))
  try simp only [Act.put, p1q, p2q, p3q, p4q, p5q, p6q]
  refine wpAnyH_take (i := 3) (v := ?v82) rfl (by kernel_rfl) (by kernel_rfl) (by kernel_rfl) (fun _ _ _ h => h) (Or.inl ⟨by rfl, ?hy82⟩) (by assumption) ?rest82
  case hy82 => (intro wy hSw; (try dsimp only at hSw); go_simp; (first | done | with_reducible rfl))
  try simp only [Act.put, p1q, p2q, p3q, p4q, p5q, p6q]
  refine wpAnyH_take (i := 4) (v := ?v83) rfl (by kernel_rfl) (by kernel_rfl) (by kernel_rfl) (fun _ _ _ h => h) (Or.inl ⟨by rfl, ?hy83⟩) (by assumption) ?rest83
  case hy83 => (intro wy hSw; (try dsimp only at hSw); go_simp; (first | done | with_reducible rfl))
  try simp only [Act.put, p1q, p2q, p3q, p4q, p5q, p6q]
  refine wpAnyH_take (i := 5) (v := ?v84) rfl (by kernel_rfl) (by kernel_rfl) (by kernel_rfl) (fun _ _ _ h => h) (Or.inl ⟨by rfl, ?hy84⟩) (by assumption) ?rest84
  case hy84 => (intro wy hSw; (try dsimp only at hSw); go_simp; (first | done | with_reducible rfl))
  try simp only [Act.put, p1q, p2q, p3q, p4q, p5q, p6q]
  refine wpAnyH_take (i := 6) (v := ?v85) rfl (by kernel_rfl) (by kernel_rfl) (by kernel_rfl) (fun _ _ _ h => h) (Or.inl ⟨by rfl, ?hy85⟩) (by assumption) ?rest85
  case hy85 => (intro wy hSw; (try dsimp only at hSw); go_simp; (first | done | with_reducible rfl))
  try simp only [Act.put, p1q, p2q, p3q, p4q, p5q, p6q]
  refine wpAnyH_take (i := 7) (v := ?v86) rfl (by kernel_rfl) (by kernel_rfl) (by kernel_rfl) (fun _ _ _ h => h) (Or.inl ⟨by rfl, ?hy86⟩) (by assumption) ?rest86
  case hy86 => (intro wy hSw; (try dsimp only at hSw); go_simp; (first | done | with_reducible rfl))
  try simp only [Act.put, p1q, p2q, p3q, p4q, p5q, p6q]
  refine wpAnyH_take (i := 8) (v := ?v87) rfl (by kernel_rfl) (by kernel_rfl) (by kernel_rfl) (fun _ _ _ h => h) (Or.inl ⟨by rfl, ?hy87⟩) (by assumption) ?rest87
  case hy87 => (intro wy hSw; (try dsimp only at hSw); go_simp; (first | done | with_reducible rfl))
  try simp only [Act.put, p1q, p2q, p3q, p4q, p5q, p6q]
  refine wpAnyH_take (i := 9) (v := ?v88) rfl (by kernel_rfl) (by kernel_rfl) (by kernel_rfl) (fun _ _ _ h => h) (Or.inl ⟨by rfl, ?hy88⟩) (by assumption) ?rest88
  case hy88 => (intro wy hSw; (try dsimp only at hSw); go_simp; (first | done | with_reducible rfl))
  try simp only [Act.put, p1q, p2q, p3q, p4q, p5q, p6q]
  refine wpAnyH_take (i := 10) (v := ?v89) rfl (by kernel_rfl) (by kernel_rfl) (by kernel_rfl) (fun _ _ _ h => h) (Or.inl ⟨by rfl, ?hy89⟩) (by assumption) ?rest89
  case hy89 => (intro wy hSw; (try dsimp only at hSw); go_simp; (first | done | with_reducible rfl))
  try simp only [Act.put, p1q, p2q, p3q, p4q, p5q, p6q]
  refine wpAnyH_take (i := 11) (v := ?v90) rfl (by kernel_rfl) (by kernel_rfl) (by kernel_rfl) (fun _ _ _ h => h) (Or.inl ⟨by rfl, ?hy90⟩) (by assumption) ?rest90
  case hy90 => (intro wy hSw; (try dsimp only at hSw); go_simp; (first | done | with_reducible rfl))
  try simp only [Act.put, p1q, p2q, p3q, p4q, p5q, p6q]
  refine wpAnyH_take (i := 12) (v := ?v91) rfl (by kernel_rfl) (by kernel_rfl) (by kernel_rfl) (fun _ _ _ h => h) (Or.inl ⟨by rfl, ?hy91⟩) (by assumption) ?rest91
  case hy91 => (intro wy hSw; (try dsimp only at hSw); go_simp; (first | done | with_reducible rfl))
  try simp only [Act.put, p1q, p2q, p3q, p4q, p5q, p6q]
  refine wpAnyH_take (i := 13) rfl (by kernel_rfl) (by kernel_rfl) (by kernel_rfl) (fun _ _ _ h => h) (yieldsIf_load_mid (by rfl) _ _ rfl _ _ rfl (stC r s) _ (fun w h => h.2.2.2.2.2.2.2) Tryz.underlying111 rfl (sizeJ h8)) (by assumption) ?_
  try simp only [Act.put, p1q, p2q, p3q, p4q, p5q, p6q]
  refine wpAnyH_ready (rs := [14, 15]) (by kernel_rfl) (by simp) ?_
  refine AllReadyH.cons rfl (fun KK hK => ?_) (AllReadyH.cons rfl (fun KK hK => ?_) AllReadyH.nil) <;> rw [if_pos (by rfl)]
  ·go_simp
   refine hK.out _ _ (HP.out _ ((Below.refl _ _).alloc (Nat.le_refl _) _).drew) (fun hHeld => ?_)
   clear hK KK
   try simp only [Act.put, p1q, p2q, p3q, p4q, p5q, p6q]
   refine wpAnyH_ready (rs := [15]) (by kernel_rfl) (by simp) ?_
   refine AllReadyH.cons rfl (fun KK hK => ?_) AllReadyH.nil
   rw [if_pos (by rfl)]
   go_simp
   obtain ⟨Y, HY, HiY, HsY, hbY, hzY⟩ : ∃ Y, Hid (Y = (w.alloc (Obj.cells #[.int .i64 0, .int .i64 0, .int .i64 0, .int .i64 0, .int .i64 0] 70)).alloc (Obj.cells #[.bool false, .int .i64 0, .int .u64 0, .int .u64 0, .int .i64 0, .int .i64 0, .int .u64 0, .int .u64 0, .int .i64 0, .int .i64 0, .int .u64 0, .int .u64 0, .int .i64 0, .int .i64 0, .int .u64 0, .int .u64 0, .int .i64 0, .int .i64 0, .int .u64 0, .int .u64 0, .int .i64 0, .int .i64 0, .int .u64 0, .int .u64 0, .int .i64 0, .int .i64 0, .int .u64 0, .int .u64 0, .int .i64 0, .int .i64 0, .int .u64 0, .int .u64 0, .int .i64 0] 111)) /\ Hid (Hp Y w.heap.size 70 (inC ⟨0, 0, 0, 0, 0⟩)) /\ Hid (Hp Y (w.heap.size + 1) 111 zeroC) /\ Below w.heap.size w Y /\ w.heap.size + 2 <= Y.heap.size := ⟨_, rfl, (Hp.new w (inC ⟨0, 0, 0, 0, 0⟩) _).alloc _, keepJ (by have := Hp.new (w.alloc (Obj.cells #[.int .i64 0, .int .i64 0, .int .i64 0, .int .i64 0, .int .i64 0] 70)) zeroC 111; simpa [zeroC] using this), by go_grown, by simp⟩
   rw [<- HY.out]
   clear HY
   refine hK.out _ _ (HP.out _ hbY.drew) (fun hHeld => ?_)
   clear hK KK
   try simp only [Act.put, p1q, p2q, p3q, p4q, p5q, p6q]
   have n0 : Y.cell? ⟨w.heap.size, 0, none⟩ = some (.int .i64 0) := HiY.out.cell rfl
   have f0 := HiY.out.frozen 0
   have n1 : Y.cell? ⟨w.heap.size, 1, none⟩ = some (.int .i64 0) := HiY.out.cell rfl
   have f1 := HiY.out.frozen 1
   have n2 : Y.cell? ⟨w.heap.size, 2, none⟩ = some (.int .i64 0) := HiY.out.cell rfl
   have f2 := HiY.out.frozen 2
   have n3 : Y.cell? ⟨w.heap.size, 3, none⟩ = some (.int .i64 0) := HiY.out.cell rfl
   have f3 := HiY.out.frozen 3
   have n4 : Y.cell? ⟨w.heap.size, 4, none⟩ = some (.int .i64 0) := HiY.out.cell rfl
   have f4 := HiY.out.frozen 4
   refine wpAnyH_ready (rs := [16]) (by kernel_rfl) (by simp) ?_
   refine AllReadyH.cons rfl (fun KK hK => ?_) AllReadyH.nil
   rw [if_pos (by rfl)]
   go_simp
   clear n0 n1 n2 n3 n4 f0 f1 f2 f3 f4
   obtain ⟨V, HV, HiV, HsV, hbV, hzV⟩ : ∃ V, Hid (V = (((((Y.setCell ⟨w.heap.size, 0, none⟩ (.int .i64 19)).setCell ⟨w.heap.size, 1, none⟩ (.int .i64 d)).setCell ⟨w.heap.size, 2, none⟩ (.int .i64 a)).setCell ⟨w.heap.size, 3, none⟩ (.int .i64 b)).setCell ⟨w.heap.size, 4, none⟩ (.int .i64 imm))) /\ Hid (Hp V w.heap.size 70 (inC ⟨19, d, a, b, imm⟩)) /\ Hid (Hp V (w.heap.size + 1) 111 zeroC) /\ Below w.heap.size w V /\ w.heap.size + 2 <= V.heap.size := ⟨_, rfl, HiY.out.sets (inC ⟨19, d, a, b, imm⟩) 0, HsY.out.fars (by omega) (inC ⟨19, d, a, b, imm⟩) 0, hbY.trans (qAc (qAa _ (inC ⟨19, d, a, b, imm⟩) Y 0) (by omega) hbY.size), Nat.le_trans hzY (qAa _ (inC ⟨19, d, a, b, imm⟩) Y 0).size⟩
   rw [<- HV.out]
   clear HV HiY HsY
   refine hK.out _ _ (HP.out _ hbV.drew) (fun hHeld => ?_)
   clear hK KK
   try simp only [Act.put, p1q, p2q, p3q, p4q, p5q, p6q]
   refine wpAnyH_ready (rs := [17]) (by kernel_rfl) (by simp) ?_
   refine AllReadyH.cons rfl (fun KK hK => ?_) AllReadyH.nil
   rw [if_pos (by rfl)]
   have HTH : V.drew.there (w.heap.size + 1) 0 (stC r s).toArray.size := by rw [qAu r h8]; exact HsV.out.drew.there (by rw [qAe]; omega)
   refine wp_store_mid _ _ _ rfl _ _ (List.toArray _) rfl rfl HTH (sizeJA h8) (qAz r s) ?_
   have hbU : Below w.heap.size w (V.drew.setCells (w.heap.size + 1) 0 (stC r s)) := (hbV.drew).trans (qAc (qAa _ _ _ _) (by omega) (show w.heap.size <= V.heap.size by omega))
   refine hK.out _ _ (HP.out _ hbU) (fun hHeld => ?_)
   clear hK KK
   try simp only [Act.put, p1q, p2q, p3q, p4q, p5q, p6q]
   refine wpAnyH_done (by kernel_rfl) ?_ _
   go_wp2
   go_meet
   case rel => exact ⟨w.heap.size, (w.heap.size + 1), rfl, rfl, HiV.out.drew.fars (by omega) _ _, HsV.out.drew.box qAe h8, hbU, by omega, by omega, by omega⟩
  ·go_simp
   refine hK.out _ _ (HP.out _ ((Below.refl _ _).alloc (Nat.le_refl _) _).drew) (fun hHeld => ?_)
   clear hK KK
   try simp only [Act.put, p1q, p2q, p3q, p4q, p5q, p6q]
   refine wpAnyH_ready (rs := [14]) (by kernel_rfl) (by simp) ?_
   refine AllReadyH.cons rfl (fun KK hK => ?_) AllReadyH.nil
   rw [if_pos (by rfl)]
   go_simp
   obtain ⟨Y, HY, HiY, HsY, hbY, hzY⟩ : ∃ Y, Hid (Y = (w.alloc (Obj.cells #[.bool false, .int .i64 0, .int .u64 0, .int .u64 0, .int .i64 0, .int .i64 0, .int .u64 0, .int .u64 0, .int .i64 0, .int .i64 0, .int .u64 0, .int .u64 0, .int .i64 0, .int .i64 0, .int .u64 0, .int .u64 0, .int .i64 0, .int .i64 0, .int .u64 0, .int .u64 0, .int .i64 0, .int .i64 0, .int .u64 0, .int .u64 0, .int .i64 0, .int .i64 0, .int .u64 0, .int .u64 0, .int .i64 0, .int .i64 0, .int .u64 0, .int .u64 0, .int .i64 0] 111)).alloc (Obj.cells #[.int .i64 0, .int .i64 0, .int .i64 0, .int .i64 0, .int .i64 0] 70)) /\ Hid (Hp Y (w.heap.size + 1) 70 (inC ⟨0, 0, 0, 0, 0⟩)) /\ Hid (Hp Y w.heap.size 111 zeroC) /\ Below w.heap.size w Y /\ w.heap.size + 2 <= Y.heap.size := ⟨_, rfl, keepJ (by have := Hp.new (w.alloc (Obj.cells #[.bool false, .int .i64 0, .int .u64 0, .int .u64 0, .int .i64 0, .int .i64 0, .int .u64 0, .int .u64 0, .int .i64 0, .int .i64 0, .int .u64 0, .int .u64 0, .int .i64 0, .int .i64 0, .int .u64 0, .int .u64 0, .int .i64 0, .int .i64 0, .int .u64 0, .int .u64 0, .int .i64 0, .int .i64 0, .int .u64 0, .int .u64 0, .int .i64 0, .int .i64 0, .int .u64 0, .int .u64 0, .int .i64 0, .int .i64 0, .int .u64 0, .int .u64 0, .int .i64 0] 111)) (inC ⟨0, 0, 0, 0, 0⟩) 70; simpa [inC] using this), (Hp.new w zeroC _).alloc _, by go_grown, by simp⟩
   rw [<- HY.out]
   clear HY
   refine hK.out _ _ (HP.out _ hbY.drew) (fun hHeld => ?_)
   clear hK KK
   try simp only [Act.put, p1q, p2q, p3q, p4q, p5q, p6q]
   have n0 : Y.cell? ⟨(w.heap.size + 1), 0, none⟩ = some (.int .i64 0) := HiY.out.cell rfl
   have f0 := HiY.out.frozen 0
   have n1 : Y.cell? ⟨(w.heap.size + 1), 1, none⟩ = some (.int .i64 0) := HiY.out.cell rfl
   have f1 := HiY.out.frozen 1
   have n2 : Y.cell? ⟨(w.heap.size + 1), 2, none⟩ = some (.int .i64 0) := HiY.out.cell rfl
   have f2 := HiY.out.frozen 2
   have n3 : Y.cell? ⟨(w.heap.size + 1), 3, none⟩ = some (.int .i64 0) := HiY.out.cell rfl
   have f3 := HiY.out.frozen 3
   have n4 : Y.cell? ⟨(w.heap.size + 1), 4, none⟩ = some (.int .i64 0) := HiY.out.cell rfl
   have f4 := HiY.out.frozen 4
   refine wpAnyH_ready (rs := [16]) (by kernel_rfl) (by simp) ?_
   refine AllReadyH.cons rfl (fun KK hK => ?_) AllReadyH.nil
   rw [if_pos (by rfl)]
   go_simp
   clear n0 n1 n2 n3 n4 f0 f1 f2 f3 f4
   obtain ⟨V, HV, HiV, HsV, hbV, hzV⟩ : ∃ V, Hid (V = (((((Y.setCell ⟨(w.heap.size + 1), 0, none⟩ (.int .i64 19)).setCell ⟨(w.heap.size + 1), 1, none⟩ (.int .i64 d)).setCell ⟨(w.heap.size + 1), 2, none⟩ (.int .i64 a)).setCell ⟨(w.heap.size + 1), 3, none⟩ (.int .i64 b)).setCell ⟨(w.heap.size + 1), 4, none⟩ (.int .i64 imm))) /\ Hid (Hp V (w.heap.size + 1) 70 (inC ⟨19, d, a, b, imm⟩)) /\ Hid (Hp V w.heap.size 111 zeroC) /\ Below w.heap.size w V /\ w.heap.size + 2 <= V.heap.size := ⟨_, rfl, HiY.out.sets (inC ⟨19, d, a, b, imm⟩) 0, HsY.out.fars (by omega) (inC ⟨19, d, a, b, imm⟩) 0, hbY.trans (qAc (qAa _ (inC ⟨19, d, a, b, imm⟩) Y 0) (by omega) hbY.size), Nat.le_trans hzY (qAa _ (inC ⟨19, d, a, b, imm⟩) Y 0).size⟩
   rw [<- HV.out]
   clear HV HiY HsY
   refine hK.out _ _ (HP.out _ hbV.drew) (fun hHeld => ?_)
   clear hK KK
   try simp only [Act.put, p1q, p2q, p3q, p4q, p5q, p6q]
   refine wpAnyH_ready (rs := [17]) (by kernel_rfl) (by simp) ?_
   refine AllReadyH.cons rfl (fun KK hK => ?_) AllReadyH.nil
   rw [if_pos (by rfl)]
   have HTH : V.drew.there w.heap.size 0 (stC r s).toArray.size := by rw [qAu r h8]; exact HsV.out.drew.there (by rw [qAe]; omega)
   refine wp_store_mid _ _ _ rfl _ _ (List.toArray _) rfl rfl HTH (sizeJA h8) (qAz r s) ?_
   have hbU : Below w.heap.size w (V.drew.setCells w.heap.size 0 (stC r s)) := (hbV.drew).trans (qAc (qAa _ _ _ _) (by omega) (show w.heap.size <= V.heap.size by omega))
   refine hK.out _ _ (HP.out _ hbU) (fun hHeld => ?_)
   clear hK KK
   try simp only [Act.put, p1q, p2q, p3q, p4q, p5q, p6q]
   refine wpAnyH_done (by kernel_rfl) ?_ _
   go_wp2
   go_meet
   case rel => exact ⟨(w.heap.size + 1), w.heap.size, rfl, rfl, HiV.out.drew.fars (by omega) _ _, HsV.out.drew.box qAe h8, hbU, by omega, by omega, by omega⟩
end Go.Proofs.YtbaeakbnoijkcaaGreat
