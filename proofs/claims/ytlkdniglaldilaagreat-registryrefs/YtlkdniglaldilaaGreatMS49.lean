/-
  W24Play
  R24LH
-/
import Derived.Test.YtlkdniglaldilaaGreatMS0
import Derived.Test.YtlkdniglaldilaaGreatMS48
import Derived.Laws.AppendOwnNone
namespace Go.Proofs.YtlkdniglaldilaaGreat
open Go.RowKit
set_option linter.unusedVariables false
set_option linter.unusedSimpArgs false
set_option maxRecDepth 100000
section
variable {w0 w w' : World} {b bt br bc : Nat} {G G' H : Ft} {r r' : Rg}
theorem play_ok {k x p : Int} {ws : List Int} {n E : Int} (hk : r.Ok) (h : r.play k x p ws = (n, E, r')) : r'.Ok := by
 have := hk.play k x p ws
 rw [h] at this
 exact this
theorem play_few {N : Nat} {k x p : Int} {ws : List Int} {n E : Int} (hk : r.Few N) (h : r.play k x p ws = (n, E, r')) : r'.Few (N + 1) := by
 have := hk.play k x p ws
 rw [h] at this
 exact this
set_option maxHeartbeats 1600000 in
theorem play24_0 (h : Lz24 w0 w b bt br bc G r) {N : Nat} (hf : r.Few N) (hN : N <= 1000000) (x p : Int) {a : Option Addr} {uc : Nat} {ws : List Int} (hs : Sees .u8 w (.slice a ws.length uc) ws) (hl : ws.length <= 140737488351232) (hx : (Lit.int .i64 x).wf = true) {n E : Int} (HQ : Hid (r.play 0 x p ws = (n, E, r'))) :
  Calls Tryz.prog 8 #[.pointer (some ⟨b, 0, none⟩), .agg #[.int .i64 0, .int .i64 x, .int .i64 p, .slice a ws.length uc]] w fun e w' => e = .returned (.tuple #[.int .i64 n, .int .i64 E]) /\ ∃ G', Lz24 w0 w' b bt br bc G' r' /\ Nx w w' G G' := by
 obtain ⟨X, HX, HpX, HBX⟩ : ∃ X, Hid (w.alloc (.cells #[.int .i64 0, .int .i64 x, .int .i64 p, .slice a ws.length uc] 31) = X) /\ Hid (Hp X w.heap.size 31 [.int .i64 0, .int .i64 x, .int .i64 p, .slice a ws.length uc]) /\ Hid (Below w.heap.size w X) := ⟨_, rfl, Hp.new w _ _, below_allocG _ _⟩
 have hok := play_ok h.ok HQ.out
 have HL := keepG h
 have HLX := keepG (h.below HBX.out)
 have hps : r.ps.length <= 1000000000000000 := by have := hf.ps; omega
 have hla : r.tb.last <= 1000000000000000 := by have := hf.la; omega
 have hnw : r.ck.now <= 1000000000000000 := by have := hf.nw; omega
 have hkk := h.ok
 have HOK := keepG hok
 have p0 := HpX.out.cell (j := 0) rfl
 have p1 := HpX.out.cell (j := 1) rfl
 have p2 := HpX.out.cell (j := 2) rfl
 have p3 := HpX.out.cell (j := 3) rfl
 have HLI := keepG (fun k (e : G k) => HLX.out.reg.lies k e)
 have HLW := keepG (fun k (e : G k) => h.reg.lies k e)
 clear hok hf hN
 obtain ⟨i0, hi, hz0, hz1, hz2⟩ := info_parts infoU8W
 have HR := keepG (show r.loadB ws = (n, E, r') from HQ.out)
 have HSX := keepG (hs.below HBX.out (Nat.le_refl _))
 have q3 := (HpX.out.below (below_allocG X (.cells #[] 5)) HpX.out.lt).cell (j := 3) rfl
 have hxz := HpX.out.lt
 have hxn : ¬ w.heap.size = X.heap.size := by omega
 have hxm : ¬ X.heap.size = w.heap.size := by omega
 have hby := hs.bytes24
 have HWF : Hid (∀ x ∈ ws, (Lit.int .u8 x).wf = true) := wf_bytes hby
 have HBY := keepG hby
 clear HQ h hs hby
 go_enter Tryz.func8, Tryz.ntmps8
 go_wp2_with (first
  | (rw [HX.out])
  | (at_builtin; go_must (refine wpList_append_sees rfl (.tmp 11) (.tmp 13) 29 rfl X.heap.size 5 i0 (.int .u8 0) 1 Tryz.underlying29 hi hz0 hz1 hz2 rfl .u8 (.slice (some ⟨X.heap.size, 0, none⟩) 0 0) [] rfl (own_empty24 X _ _) _ ws rfl (HSX.out.below ((Below.refl _ _).alloc (Nat.le_refl _) _) (Nat.le_refl _)) (by unfold maxLen; simp; omega) (by simp; omega) (by simp) ?_); intro v1 w1 hown1 hg1; go_must (have hB1 := grown_new24 hg1; have HS1 := keepG (Sees.own (by simpa using hown1) HWF.out); have HL1 := keepG (HLX.out.below hB1); have HB1 := keepG (HBX.out.trans (hB1.mono HBX.out.size)); obtain ⟨va, vc, ev⟩ := own_shape hown1; clear hown1 hg1 hB1; subst ev))
  | (go_at_call 17; go_must (refine (HL1.out.reg.load hkk hps HS1.out HBY.out HR).mono ?_); rintro e2 w2 ⟨rfl, G2, hl2, hn2⟩; go_must (have HLE := keepG (Lz24.next HL1.out hl2 hn2 HOK.out); have HNE := keepG ((Nx.below (F := G) HB1.out).trans hn2); clear hl2 hn2)))
 go_ret2
 exact ⟨rfl, _, HLE.out, HNE.out⟩
set_option maxHeartbeats 1600000 in
theorem play24_1 (h : Lz24 w0 w b bt br bc G r) {N : Nat} (hf : r.Few N) (hN : N <= 1000000) (x p : Int) {a : Option Addr} {uc : Nat} {ws : List Int} (hs : Sees .u8 w (.slice a ws.length uc) ws) (hl : ws.length <= 140737488351232) (hx : (Lit.int .i64 x).wf = true) {n E : Int} (HQ : Hid (r.play 1 x p ws = (n, E, r'))) :
  Calls Tryz.prog 8 #[.pointer (some ⟨b, 0, none⟩), .agg #[.int .i64 1, .int .i64 x, .int .i64 p, .slice a ws.length uc]] w fun e w' => e = .returned (.tuple #[.int .i64 n, .int .i64 E]) /\ ∃ G', Lz24 w0 w' b bt br bc G' r' /\ Nx w w' G G' := by
 obtain ⟨X, HX, HpX, HBX⟩ : ∃ X, Hid (w.alloc (.cells #[.int .i64 1, .int .i64 x, .int .i64 p, .slice a ws.length uc] 31) = X) /\ Hid (Hp X w.heap.size 31 [.int .i64 1, .int .i64 x, .int .i64 p, .slice a ws.length uc]) /\ Hid (Below w.heap.size w X) := ⟨_, rfl, Hp.new w _ _, below_allocG _ _⟩
 have hok := play_ok h.ok HQ.out
 have HL := keepG h
 have HLX := keepG (h.below HBX.out)
 have hps : r.ps.length <= 1000000000000000 := by have := hf.ps; omega
 have hla : r.tb.last <= 1000000000000000 := by have := hf.la; omega
 have hnw : r.ck.now <= 1000000000000000 := by have := hf.nw; omega
 have hkk := h.ok
 have HOK := keepG hok
 have p0 := HpX.out.cell (j := 0) rfl
 have p1 := HpX.out.cell (j := 1) rfl
 have p2 := HpX.out.cell (j := 2) rfl
 have p3 := HpX.out.cell (j := 3) rfl
 have HLI := keepG (fun k (e : G k) => HLX.out.reg.lies k e)
 have HLW := keepG (fun k (e : G k) => h.reg.lies k e)
 clear hok hf hN
 have HR := keepG (show r.put false x p = (n, E, r') from HQ.out)
 clear HQ h
 go_enter Tryz.func8, Tryz.ntmps8
 go_wp2_with (first
  | (rw [HX.out])
  | (go_at_call 13; go_must (refine (HLX.out.reg.attach hkk hla x p HR).mono ?_); rintro e1 w1 ⟨rfl, G2, hl2, hn2⟩; go_must (have HLE := keepG (Lz24.next HLX.out hl2 hn2 HOK.out); have HNE := keepG ((Nx.below (F := G) HBX.out).trans hn2); clear hl2 hn2)))
 go_ret2
 exact ⟨rfl, _, HLE.out, HNE.out⟩
set_option maxHeartbeats 1600000 in
theorem play24_2 (h : Lz24 w0 w b bt br bc G r) {N : Nat} (hf : r.Few N) (hN : N <= 1000000) (x p : Int) {a : Option Addr} {uc : Nat} {ws : List Int} (hs : Sees .u8 w (.slice a ws.length uc) ws) (hl : ws.length <= 140737488351232) (hx : (Lit.int .i64 x).wf = true) {n E : Int} (HQ : Hid (r.play 2 x p ws = (n, E, r'))) :
  Calls Tryz.prog 8 #[.pointer (some ⟨b, 0, none⟩), .agg #[.int .i64 2, .int .i64 x, .int .i64 p, .slice a ws.length uc]] w fun e w' => e = .returned (.tuple #[.int .i64 n, .int .i64 E]) /\ ∃ G', Lz24 w0 w' b bt br bc G' r' /\ Nx w w' G G' := by
 obtain ⟨X, HX, HpX, HBX⟩ : ∃ X, Hid (w.alloc (.cells #[.int .i64 2, .int .i64 x, .int .i64 p, .slice a ws.length uc] 31) = X) /\ Hid (Hp X w.heap.size 31 [.int .i64 2, .int .i64 x, .int .i64 p, .slice a ws.length uc]) /\ Hid (Below w.heap.size w X) := ⟨_, rfl, Hp.new w _ _, below_allocG _ _⟩
 have hok := play_ok h.ok HQ.out
 have HL := keepG h
 have HLX := keepG (h.below HBX.out)
 have hps : r.ps.length <= 1000000000000000 := by have := hf.ps; omega
 have hla : r.tb.last <= 1000000000000000 := by have := hf.la; omega
 have hnw : r.ck.now <= 1000000000000000 := by have := hf.nw; omega
 have hkk := h.ok
 have HOK := keepG hok
 have p0 := HpX.out.cell (j := 0) rfl
 have p1 := HpX.out.cell (j := 1) rfl
 have p2 := HpX.out.cell (j := 2) rfl
 have p3 := HpX.out.cell (j := 3) rfl
 have HLI := keepG (fun k (e : G k) => HLX.out.reg.lies k e)
 have HLW := keepG (fun k (e : G k) => h.reg.lies k e)
 clear hok hf hN
 have HR := keepG (show r.put true x p = (n, E, r') from HQ.out)
 clear HQ h
 go_enter Tryz.func8, Tryz.ntmps8
 go_wp2_with (first
  | (rw [HX.out])
  | (go_at_call 24; go_must (refine (HLX.out.reg.swap hkk hla x p HR).mono ?_); rintro e1 w1 ⟨rfl, G2, hl2, hn2⟩; go_must (have HLE := keepG (Lz24.next HLX.out hl2 hn2 HOK.out); have HNE := keepG ((Nx.below (F := G) HBX.out).trans hn2); clear hl2 hn2)))
 go_ret2
 exact ⟨rfl, _, HLE.out, HNE.out⟩
set_option maxHeartbeats 1600000 in
theorem play24_4 (h : Lz24 w0 w b bt br bc G r) {N : Nat} (hf : r.Few N) (hN : N <= 1000000) (x p : Int) {a : Option Addr} {uc : Nat} {ws : List Int} (hs : Sees .u8 w (.slice a ws.length uc) ws) (hl : ws.length <= 140737488351232) (hx : (Lit.int .i64 x).wf = true) {n E : Int} (HQ : Hid (r.play 4 x p ws = (n, E, r'))) :
  Calls Tryz.prog 8 #[.pointer (some ⟨b, 0, none⟩), .agg #[.int .i64 4, .int .i64 x, .int .i64 p, .slice a ws.length uc]] w fun e w' => e = .returned (.tuple #[.int .i64 n, .int .i64 E]) /\ ∃ G', Lz24 w0 w' b bt br bc G' r' /\ Nx w w' G G' := by
 obtain ⟨X, HX, HpX, HBX⟩ : ∃ X, Hid (w.alloc (.cells #[.int .i64 4, .int .i64 x, .int .i64 p, .slice a ws.length uc] 31) = X) /\ Hid (Hp X w.heap.size 31 [.int .i64 4, .int .i64 x, .int .i64 p, .slice a ws.length uc]) /\ Hid (Below w.heap.size w X) := ⟨_, rfl, Hp.new w _ _, below_allocG _ _⟩
 have hok := play_ok h.ok HQ.out
 have HL := keepG h
 have HLX := keepG (h.below HBX.out)
 have hps : r.ps.length <= 1000000000000000 := by have := hf.ps; omega
 have hla : r.tb.last <= 1000000000000000 := by have := hf.la; omega
 have hnw : r.ck.now <= 1000000000000000 := by have := hf.nw; omega
 have hkk := h.ok
 have HOK := keepG hok
 have p0 := HpX.out.cell (j := 0) rfl
 have p1 := HpX.out.cell (j := 1) rfl
 have p2 := HpX.out.cell (j := 2) rfl
 have p3 := HpX.out.cell (j := 3) rfl
 have HLI := keepG (fun k (e : G k) => HLX.out.reg.lies k e)
 have HLW := keepG (fun k (e : G k) => h.reg.lies k e)
 clear hok hf hN
 have HR := keepG (show r.ret p = (n, E, r') from HQ.out)
 clear HQ h
 go_enter Tryz.func8, Tryz.ntmps8
 go_wp2_with (first
  | (rw [HX.out])
  | (go_at_call 14; go_must (refine (HLX.out.reg.retire hkk hps hnw p HR).mono ?_); rintro e1 w1 ⟨rfl, G2, hl2, hn2⟩; go_must (have HLE := keepG (Lz24.next HLX.out hl2 hn2 HOK.out); have HNE := keepG ((Nx.below (F := G) HBX.out).trans hn2); clear hl2 hn2)))
 go_ret2
 exact ⟨rfl, _, HLE.out, HNE.out⟩
set_option maxHeartbeats 3200000 in
theorem play24_3 (h : Lz24 w0 w b bt br bc G r) {N : Nat} (hf : r.Few N) (hN : N <= 1000000) (x p : Int) {a : Option Addr} {uc : Nat} {ws : List Int} (hs : Sees .u8 w (.slice a ws.length uc) ws) (hl : ws.length <= 140737488351232) (hx : (Lit.int .i64 x).wf = true) {n E : Int} (HQ : Hid (r.play 3 x p ws = (n, E, r'))) :
  Calls Tryz.prog 8 #[.pointer (some ⟨b, 0, none⟩), .agg #[.int .i64 3, .int .i64 x, .int .i64 p, .slice a ws.length uc]] w fun e w' => e = .returned (.tuple #[.int .i64 n, .int .i64 E]) /\ ∃ G', Lz24 w0 w' b bt br bc G' r' /\ Nx w w' G G' := by
 obtain ⟨X, HX, HpX, HBX⟩ : ∃ X, Hid (w.alloc (.cells #[.int .i64 3, .int .i64 x, .int .i64 p, .slice a ws.length uc] 31) = X) /\ Hid (Hp X w.heap.size 31 [.int .i64 3, .int .i64 x, .int .i64 p, .slice a ws.length uc]) /\ Hid (Below w.heap.size w X) := ⟨_, rfl, Hp.new w _ _, below_allocG _ _⟩
 have hok := play_ok h.ok HQ.out
 have HL := keepG h
 have HLX := keepG (h.below HBX.out)
 have hps : r.ps.length <= 1000000000000000 := by have := hf.ps; omega
 have hla : r.tb.last <= 1000000000000000 := by have := hf.la; omega
 have hnw : r.ck.now <= 1000000000000000 := by have := hf.nw; omega
 have hkk := h.ok
 have HOK := keepG hok
 have p0 := HpX.out.cell (j := 0) rfl
 have p1 := HpX.out.cell (j := 1) rfl
 have p2 := HpX.out.cell (j := 2) rfl
 have p3 := HpX.out.cell (j := 3) rfl
 have HLI := keepG (fun k (e : G k) => HLX.out.reg.lies k e)
 have HLW := keepG (fun k (e : G k) => h.reg.lies k e)
 clear hok hf hN
 obtain ⟨rfl, HD⟩ : 0 = n /\ Hid (r.det [x] = (E, r')) := by
  have := HQ.out
  injection this with e1 this
  injection this with e2 e3
  exact ⟨e1, by show _ = _; rw [<- e2, <- e3]⟩
 have c0 := HLX.out.low.1
 obtain ⟨Z, HZ, HBZ, HSZ⟩ := lit_oneR X x hx
 have HLZ := keepG (HLX.out.below HBZ.out)
 have z0 := HLZ.out.low.1
 have HpZ := keepG (HpX.out.below HBZ.out HpX.out.lt)
 have z1 := HpZ.out.cell (j := 1) rfl
 clear HQ h
 go_enter Tryz.func8, Tryz.ntmps8
 go_wp2_with (rw [HX.out])
 refine wp_region_held_drew (S := fun w' => w'.cell? ⟨b, 0, none⟩ = some (.pointer (some ⟨bt, 0, none⟩)) /\ w'.cell? ⟨w.heap.size, 1, none⟩ = some (.int .i64 x)) (by kernel_rfl) ⟨c0, p1⟩ (fun hHeld => ?_)
 refine tkGo [0, 1, 2, 3, 4, 5] ?_
 repeat (refine tkO (v := ?_) rfl ?_ ?_; rotate_left; (intro wy hSw; (try dsimp only at hSw); go_simp; (first | done | with_reducible rfl)); try simp only [Act.put, p1q, p2q, p3q, p4q, p5q, p6q])
 refine tkEnd ?_
 refine runO 6 (by kernel_rfl) rfl (by rfl) (fun KK hK => ?_)
 go_simp
 rw [HZ.out]
 refine hK.out _ _ ⟨z0, z1⟩ (fun hHeld => ?_)
 clear hK KK
 try simp only [Act.put, p1q, p2q, p3q, p4q, p5q, p6q]
 refine runO 7 (by kernel_rfl) rfl (by rfl) (fun KK hK => ?_)
 go_simp
 go_at_call 25
 refine ((HLZ.out.below (below_drG (Below.refl _ _))).reg.detach hkk (show Hid (1 * 8 <= _) by show _ <= _; omega) (HSZ.out.below (below_drG (Below.refl _ _)) (Nat.le_refl _)) (fun _ k e g => by have h5 := HLI.out k e; have h6 : X.heap.size = k := Option.some.inj g; omega) HD).mono ?_
 rintro e1 w1 ⟨rfl, G2, hl2, hn2⟩
 have HLE := keepG (Lz24.next (HLZ.out.below (below_drG (Below.refl _ _))) hl2 hn2 HOK.out)
 have HNE : Hid (Nx w w1 G G2) := (Nx.below (F := G) (HBX.out.trans (HBZ.out.mono HBX.out.size))).trans ((Nx.below (below_drG (Below.refl _ _))).trans hn2)
 have HpE := keepG (HpZ.out.chg (w' := w1) ((Nx.below (F := G) (below_drG (Below.refl _ _))).trans hn2).chg (fun e => by have := HLW.out _ e; omega))
 have y0 := HLE.out.low.1
 have y1 := HpE.out.cell (j := 1) rfl
 clear hl2 hn2
 go_simp
 refine hK.out _ _ ⟨y0, y1⟩ (fun hHeld => ?_)
 clear hK KK
 try simp only [Act.put, p1q, p2q, p3q, p4q, p5q, p6q]
 refine tkGo [8, 9] ?_
 repeat (refine tkO (v := ?_) rfl ?_ ?_; rotate_left; (intro wy hSw; (try dsimp only at hSw); go_simp; (first | done | with_reducible rfl)); try simp only [Act.put, p1q, p2q, p3q, p4q, p5q, p6q])
 refine tkEnd ?_
 refine wpAnyH_done (by kernel_rfl) ?_ _
 clear hHeld
 go_wp2
 go_ret2
 exact ⟨rfl, _, HLE.out, HNE.out⟩
set_option maxHeartbeats 3200000 in
theorem play24_6 (h : Lz24 w0 w b bt br bc G r) {N : Nat} (hf : r.Few N) (hN : N <= 1000000) (x p : Int) {a : Option Addr} {uc : Nat} {ws : List Int} (hs : Sees .u8 w (.slice a ws.length uc) ws) (hl : ws.length <= 140737488351232) (hx : (Lit.int .i64 x).wf = true) {n E : Int} (HQ : Hid (r.play 6 x p ws = (n, E, r'))) :
  Calls Tryz.prog 8 #[.pointer (some ⟨b, 0, none⟩), .agg #[.int .i64 6, .int .i64 x, .int .i64 p, .slice a ws.length uc]] w fun e w' => e = .returned (.tuple #[.int .i64 n, .int .i64 E]) /\ ∃ G', Lz24 w0 w' b bt br bc G' r' /\ Nx w w' G G' := by
 obtain ⟨X, HX, HpX, HBX⟩ : ∃ X, Hid (w.alloc (.cells #[.int .i64 6, .int .i64 x, .int .i64 p, .slice a ws.length uc] 31) = X) /\ Hid (Hp X w.heap.size 31 [.int .i64 6, .int .i64 x, .int .i64 p, .slice a ws.length uc]) /\ Hid (Below w.heap.size w X) := ⟨_, rfl, Hp.new w _ _, below_allocG _ _⟩
 have hok := play_ok h.ok HQ.out
 have HL := keepG h
 have HLX := keepG (h.below HBX.out)
 have hps : r.ps.length <= 1000000000000000 := by have := hf.ps; omega
 have hla : r.tb.last <= 1000000000000000 := by have := hf.la; omega
 have hnw : r.ck.now <= 1000000000000000 := by have := hf.nw; omega
 have hkk := h.ok
 have HOK := keepG hok
 have p0 := HpX.out.cell (j := 0) rfl
 have p1 := HpX.out.cell (j := 1) rfl
 have p2 := HpX.out.cell (j := 2) rfl
 have p3 := HpX.out.cell (j := 3) rfl
 have HLI := keepG (fun k (e : G k) => HLX.out.reg.lies k e)
 have HLW := keepG (fun k (e : G k) => h.reg.lies k e)
 clear hok hf hN
 have HR := keepG (show r.enter x = (n, E, r') from HQ.out)
 have c0 := HLX.out.low.2.2
 clear HQ h
 go_enter Tryz.func8, Tryz.ntmps8
 go_wp2_with (rw [HX.out])
 refine wp_region_held_drew (S := fun w' => w'.cell? ⟨b, 2, none⟩ = some (.pointer (some ⟨bc, 0, none⟩)) /\ w'.cell? ⟨w.heap.size, 1, none⟩ = some (.int .i64 x)) (by kernel_rfl) ⟨c0, p1⟩ (fun hHeld => ?_)
 refine tkGo [0, 1, 2, 3, 4, 5] ?_
 repeat (refine tkO (v := ?_) rfl ?_ ?_; rotate_left; (intro wy hSw; (try dsimp only at hSw); go_simp; (first | done | with_reducible rfl)); try simp only [Act.put, p1q, p2q, p3q, p4q, p5q, p6q])
 refine tkEnd ?_
 refine runO 6 (by kernel_rfl) rfl (by rfl) (fun KK hK => ?_)
 go_simp
 go_at_call 26
 refine ((HLX.out.below (below_drG (Below.refl _ _))).reg.enter x HR).mono ?_
 rintro e1 w1 ⟨rfl, G2, hl2, hn2⟩
 have HLE := keepG (Lz24.next (HLX.out.below (below_drG (Below.refl _ _))) hl2 hn2 HOK.out)
 have HNE : Hid (Nx w w1 G G2) := (Nx.below (F := G) HBX.out).trans ((Nx.below (below_drG (Below.refl _ _))).trans hn2)
 have HpE := keepG (HpX.out.chg (w' := w1) ((Nx.below (F := G) (below_drG (Below.refl _ _))).trans hn2).chg (fun e => by have := HLW.out _ e; omega))
 have y0 := HLE.out.low.2.2
 have y1 := HpE.out.cell (j := 1) rfl
 clear hl2 hn2
 go_simp
 refine hK.out _ _ ⟨y0, y1⟩ (fun hHeld => ?_)
 clear hK KK
 try simp only [Act.put, p1q, p2q, p3q, p4q, p5q, p6q]
 refine tkGo [7, 8, 9, 10] ?_
 repeat (refine tkO (v := ?_) rfl ?_ ?_; rotate_left; (intro wy hSw; (try dsimp only at hSw); go_simp; (first | done | with_reducible rfl)); try simp only [Act.put, p1q, p2q, p3q, p4q, p5q, p6q])
 refine tkEnd ?_
 refine wpAnyH_done (by kernel_rfl) ?_ _
 clear hHeld
 go_wp2
 go_ret2
 exact ⟨rfl, _, HLE.out, HNE.out⟩
set_option maxHeartbeats 3200000 in
theorem play24_7 (h : Lz24 w0 w b bt br bc G r) {N : Nat} (hf : r.Few N) (hN : N <= 1000000) (x p : Int) {a : Option Addr} {uc : Nat} {ws : List Int} (hs : Sees .u8 w (.slice a ws.length uc) ws) (hl : ws.length <= 140737488351232) (hx : (Lit.int .i64 x).wf = true) {n E : Int} (HQ : Hid (r.play 7 x p ws = (n, E, r'))) :
  Calls Tryz.prog 8 #[.pointer (some ⟨b, 0, none⟩), .agg #[.int .i64 7, .int .i64 x, .int .i64 p, .slice a ws.length uc]] w fun e w' => e = .returned (.tuple #[.int .i64 n, .int .i64 E]) /\ ∃ G', Lz24 w0 w' b bt br bc G' r' /\ Nx w w' G G' := by
 obtain ⟨X, HX, HpX, HBX⟩ : ∃ X, Hid (w.alloc (.cells #[.int .i64 7, .int .i64 x, .int .i64 p, .slice a ws.length uc] 31) = X) /\ Hid (Hp X w.heap.size 31 [.int .i64 7, .int .i64 x, .int .i64 p, .slice a ws.length uc]) /\ Hid (Below w.heap.size w X) := ⟨_, rfl, Hp.new w _ _, below_allocG _ _⟩
 have hok := play_ok h.ok HQ.out
 have HL := keepG h
 have HLX := keepG (h.below HBX.out)
 have hps : r.ps.length <= 1000000000000000 := by have := hf.ps; omega
 have hla : r.tb.last <= 1000000000000000 := by have := hf.la; omega
 have hnw : r.ck.now <= 1000000000000000 := by have := hf.nw; omega
 have hkk := h.ok
 have HOK := keepG hok
 have p0 := HpX.out.cell (j := 0) rfl
 have p1 := HpX.out.cell (j := 1) rfl
 have p2 := HpX.out.cell (j := 2) rfl
 have p3 := HpX.out.cell (j := 3) rfl
 have HLI := keepG (fun k (e : G k) => HLX.out.reg.lies k e)
 have HLW := keepG (fun k (e : G k) => h.reg.lies k e)
 clear hok hf hN
 obtain ⟨rfl, HD⟩ : 0 = n /\ Hid (r.leave [x] = (E, r')) := by
  have := HQ.out
  injection this with e1 this
  injection this with e2 e3
  exact ⟨e1, by show _ = _; rw [<- e2, <- e3]⟩
 have c0 := HLX.out.low.2.2
 obtain ⟨Z, HZ, HBZ, HSZ⟩ := lit_oneR X x hx
 have HLZ := keepG (HLX.out.below HBZ.out)
 have z0 := HLZ.out.low.2.2
 have HpZ := keepG (HpX.out.below HBZ.out HpX.out.lt)
 have z1 := HpZ.out.cell (j := 1) rfl
 clear HQ h
 go_enter Tryz.func8, Tryz.ntmps8
 go_wp2_with (rw [HX.out])
 refine wp_region_held_drew (S := fun w' => w'.cell? ⟨b, 2, none⟩ = some (.pointer (some ⟨bc, 0, none⟩)) /\ w'.cell? ⟨w.heap.size, 1, none⟩ = some (.int .i64 x)) (by kernel_rfl) ⟨c0, p1⟩ (fun hHeld => ?_)
 refine tkGo [0, 1, 2, 3, 4, 5] ?_
 repeat (refine tkO (v := ?_) rfl ?_ ?_; rotate_left; (intro wy hSw; (try dsimp only at hSw); go_simp; (first | done | with_reducible rfl)); try simp only [Act.put, p1q, p2q, p3q, p4q, p5q, p6q])
 refine tkEnd ?_
 refine runO 6 (by kernel_rfl) rfl (by rfl) (fun KK hK => ?_)
 go_simp
 rw [HZ.out]
 refine hK.out _ _ ⟨z0, z1⟩ (fun hHeld => ?_)
 clear hK KK
 try simp only [Act.put, p1q, p2q, p3q, p4q, p5q, p6q]
 refine runO 7 (by kernel_rfl) rfl (by rfl) (fun KK hK => ?_)
 go_simp
 go_at_call 16
 refine ((HLZ.out.below (below_drG (Below.refl _ _))).reg.leave hkk (HSZ.out.below (below_drG (Below.refl _ _)) (Nat.le_refl _)) (fun _ k e g => by have h5 := HLI.out k e; have h6 : X.heap.size = k := Option.some.inj g; omega) HD).mono ?_
 rintro e1 w1 ⟨rfl, G2, hl2, hn2⟩
 have HLE := keepG (Lz24.next (HLZ.out.below (below_drG (Below.refl _ _))) hl2 hn2 HOK.out)
 have HNE : Hid (Nx w w1 G G2) := (Nx.below (F := G) (HBX.out.trans (HBZ.out.mono HBX.out.size))).trans ((Nx.below (below_drG (Below.refl _ _))).trans hn2)
 have HpE := keepG (HpZ.out.chg (w' := w1) ((Nx.below (F := G) (below_drG (Below.refl _ _))).trans hn2).chg (fun e => by have := HLW.out _ e; omega))
 have y0 := HLE.out.low.2.2
 have y1 := HpE.out.cell (j := 1) rfl
 clear hl2 hn2
 go_simp
 refine hK.out _ _ ⟨y0, y1⟩ (fun hHeld => ?_)
 clear hK KK
 try simp only [Act.put, p1q, p2q, p3q, p4q, p5q, p6q]
 refine tkGo [8, 9] ?_
 repeat (refine tkO (v := ?_) rfl ?_ ?_; rotate_left; (intro wy hSw; (try dsimp only at hSw); go_simp; (first | done | with_reducible rfl)); try simp only [Act.put, p1q, p2q, p3q, p4q, p5q, p6q])
 refine tkEnd ?_
 refine wpAnyH_done (by kernel_rfl) ?_ _
 clear hHeld
 go_wp2
 go_ret2
 exact ⟨rfl, _, HLE.out, HNE.out⟩
set_option maxHeartbeats 1600000 in
theorem play24_5 (h : Lz24 w0 w b bt br bc G r) {N : Nat} (hf : r.Few N) (hN : N <= 1000000) (x p : Int) {a : Option Addr} {uc : Nat} {ws : List Int} (hs : Sees .u8 w (.slice a ws.length uc) ws) (hl : ws.length <= 140737488351232) (hx : (Lit.int .i64 x).wf = true) {n E : Int} (HQ : Hid (r.play 5 x p ws = (n, E, r'))) :
  Calls Tryz.prog 8 #[.pointer (some ⟨b, 0, none⟩), .agg #[.int .i64 5, .int .i64 x, .int .i64 p, .slice a ws.length uc]] w fun e w' => e = .returned (.tuple #[.int .i64 n, .int .i64 E]) /\ ∃ G', Lz24 w0 w' b bt br bc G' r' /\ Nx w w' G G' := by
 obtain ⟨X, HX, HpX, HBX⟩ : ∃ X, Hid (w.alloc (.cells #[.int .i64 5, .int .i64 x, .int .i64 p, .slice a ws.length uc] 31) = X) /\ Hid (Hp X w.heap.size 31 [.int .i64 5, .int .i64 x, .int .i64 p, .slice a ws.length uc]) /\ Hid (Below w.heap.size w X) := ⟨_, rfl, Hp.new w _ _, below_allocG _ _⟩
 have hok := play_ok h.ok HQ.out
 have HL := keepG h
 have HLX := keepG (h.below HBX.out)
 have hps : r.ps.length <= 1000000000000000 := by have := hf.ps; omega
 have hla : r.tb.last <= 1000000000000000 := by have := hf.la; omega
 have hnw : r.ck.now <= 1000000000000000 := by have := hf.nw; omega
 have hkk := h.ok
 have HOK := keepG hok
 have p0 := HpX.out.cell (j := 0) rfl
 have p1 := HpX.out.cell (j := 1) rfl
 have p2 := HpX.out.cell (j := 2) rfl
 have p3 := HpX.out.cell (j := 3) rfl
 have HLI := keepG (fun k (e : G k) => HLX.out.reg.lies k e)
 have HLW := keepG (fun k (e : G k) => h.reg.lies k e)
 clear hok hf hN
 obtain ⟨A, HA⟩ : ∃ A, Hid (r.goes x = A) := ⟨_, rfl⟩
 obtain ⟨rfl, rfl, HD⟩ : (A.length : Int) = n /\ 0 = E /\ Hid (r.settle x = (A, r')) := by
  have := HQ.out
  injection this with e1 this
  injection this with e2 e3
  rw [HA.out] at e1
  refine ⟨e1, e2, ?_⟩
  show r.settle x = (A, r')
  rw [<- e3, <- HA.out]
  rfl
 clear HQ h
 go_enter Tryz.func8, Tryz.ntmps8
 go_wp2_with (first
  | (rw [HX.out])
  | (go_at_call 7; go_must (refine (HLX.out.reg.settle hkk x HD).mono ?_); rintro e1 w1 ⟨u, rfl, hu, G2, hl2, hn2, _⟩; go_must (obtain ⟨va, vc, ev⟩ := own_shape hu; subst ev; have HLE := keepG (Lz24.next HLX.out hl2 hn2 HOK.out); have HNE := keepG ((Nx.below (F := G) HBX.out).trans hn2); clear hl2 hn2 hu)))
 go_ret2
 exact ⟨rfl, _, HLE.out, HNE.out⟩
set_option maxHeartbeats 1600000 in
theorem play24_8 (h : Lz24 w0 w b bt br bc G r) {N : Nat} (hf : r.Few N) (hN : N <= 1000000) (k : Int) (k0 : ¬ k = 0) (k1 : ¬ k = 1) (k2 : ¬ k = 2) (k3 : ¬ k = 3) (k4 : ¬ k = 4) (k5 : ¬ k = 5) (k6 : ¬ k = 6) (k7 : ¬ k = 7) (x p : Int) {a : Option Addr} {uc : Nat} {ws : List Int} (hs : Sees .u8 w (.slice a ws.length uc) ws) (hl : ws.length <= 140737488351232) (hx : (Lit.int .i64 x).wf = true) {n E : Int} (HQ : Hid (r.play k x p ws = (n, E, r'))) :
  Calls Tryz.prog 8 #[.pointer (some ⟨b, 0, none⟩), .agg #[.int .i64 k, .int .i64 x, .int .i64 p, .slice a ws.length uc]] w fun e w' => e = .returned (.tuple #[.int .i64 n, .int .i64 E]) /\ ∃ G', Lz24 w0 w' b bt br bc G' r' /\ Nx w w' G G' := by
 obtain ⟨X, HX, HpX, HBX⟩ : ∃ X, Hid (w.alloc (.cells #[.int .i64 k, .int .i64 x, .int .i64 p, .slice a ws.length uc] 31) = X) /\ Hid (Hp X w.heap.size 31 [.int .i64 k, .int .i64 x, .int .i64 p, .slice a ws.length uc]) /\ Hid (Below w.heap.size w X) := ⟨_, rfl, Hp.new w _ _, below_allocG _ _⟩
 have hok := play_ok h.ok HQ.out
 have HL := keepG h
 have HLX := keepG (h.below HBX.out)
 have hps : r.ps.length <= 1000000000000000 := by have := hf.ps; omega
 have hla : r.tb.last <= 1000000000000000 := by have := hf.la; omega
 have hnw : r.ck.now <= 1000000000000000 := by have := hf.nw; omega
 have hkk := h.ok
 have HOK := keepG hok
 have p0 := HpX.out.cell (j := 0) rfl
 have p1 := HpX.out.cell (j := 1) rfl
 have p2 := HpX.out.cell (j := 2) rfl
 have p3 := HpX.out.cell (j := 3) rfl
 have HLI := keepG (fun k (e : G k) => HLX.out.reg.lies k e)
 have HLW := keepG (fun k (e : G k) => h.reg.lies k e)
 clear hok hf hN
 obtain ⟨rfl, rfl, rfl⟩ : r.ck.now + 1 = n /\ 0 = E /\ r.go = r' := by
  have := HQ.out
  unfold Rg.play at this
  rw [if_neg k0, if_neg k1, if_neg k2, if_neg k3, if_neg k4, if_neg k5, if_neg k6, if_neg k7] at this
  injection this with e1 this
  injection this with e2 e3
  exact ⟨e1, e2, e3⟩
 have b0 : (k == 0) = false := by simpa using k0
 have b1 : (k == 1) = false := by simpa using k1
 have b2 : (k == 2) = false := by simpa using k2
 have b3 : (k == 3) = false := by simpa using k3
 have b4 : (k == 4) = false := by simpa using k4
 have b5 : (k == 5) = false := by simpa using k5
 have b6 : (k == 6) = false := by simpa using k6
 have b7 : (k == 7) = false := by simpa using k7
 have c2 := HLX.out.low.2.2
 clear HQ h k0 k1 k2 k3 k4 k5 k6 k7
 go_enter Tryz.func8, Tryz.ntmps8
 go_wp2_with (first
  | (rw [HX.out])
  | (go_at_call 27; go_must (refine (HLX.out.reg.advance hkk (by omega)).mono ?_); rintro e1 w1 ⟨rfl, G2, hl2, hn2⟩; go_must (have HLE := keepG (Lz24.next HLX.out hl2 hn2 HOK.out); have HNE := keepG ((Nx.below (F := G) HBX.out).trans hn2); clear hl2 hn2)))
 go_ret2
 exact ⟨rfl, _, HLE.out, HNE.out⟩
theorem play24 (h : Lz24 w0 w b bt br bc G r) {N : Nat} (hf : r.Few N) (hN : N <= 1000000) (k : Int) (x p : Int) {a : Option Addr} {uc : Nat} {ws : List Int} (hs : Sees .u8 w (.slice a ws.length uc) ws) (hl : ws.length <= 140737488351232) (hx : (Lit.int .i64 x).wf = true) {n E : Int} (HQ : Hid (r.play k x p ws = (n, E, r'))) :
  Calls Tryz.prog 8 #[.pointer (some ⟨b, 0, none⟩), .agg #[.int .i64 k, .int .i64 x, .int .i64 p, .slice a ws.length uc]] w fun e w' => e = .returned (.tuple #[.int .i64 n, .int .i64 E]) /\ ∃ G', Lz24 w0 w' b bt br bc G' r' /\ Nx w w' G G' := by
 by_cases k0 : k = 0
 ·subst k0; exact play24_0 h hf hN x p hs hl hx HQ
 by_cases k1 : k = 1
 ·subst k1; exact play24_1 h hf hN x p hs hl hx HQ
 by_cases k2 : k = 2
 ·subst k2; exact play24_2 h hf hN x p hs hl hx HQ
 by_cases k3 : k = 3
 ·subst k3; exact play24_3 h hf hN x p hs hl hx HQ
 by_cases k4 : k = 4
 ·subst k4; exact play24_4 h hf hN x p hs hl hx HQ
 by_cases k5 : k = 5
 ·subst k5; exact play24_5 h hf hN x p hs hl hx HQ
 by_cases k6 : k = 6
 ·subst k6; exact play24_6 h hf hN x p hs hl hx HQ
 by_cases k7 : k = 7
 ·subst k7; exact play24_7 h hf hN x p hs hl hx HQ
 exact play24_8 h hf hN k k0 k1 k2 k3 k4 k5 k6 k7 x p hs hl hx HQ
end
theorem infoInst24 : (Tryz.prog.info? 74).map (fun i => (i.zero, i.size, i.bytes)) = some (some (.agg #[.int .i64 0, .int .i64 0, .int .i64 0, .int .i64 0, .int .i64 0]), 5, 40) := by kernel_rfl
theorem own_zero24 (w : World) (e : TypeId) (z : Nat) : (w.alloc (.cells #[] e)).ownsRow w.heap.size e z (.slice (some ⟨w.heap.size, 0, none⟩) 0 0) 0 [] := by
 refine ⟨by simp, .inr ⟨w.heap.size, 0, #[], rfl, Nat.le_refl _, ?_, Nat.le_refl _, by simp [maxLen], by simp, by simp⟩⟩
 show (w.heap.push _)[w.heap.size]? = _
 simp
theorem grown_new25 {w w1 : World} {o : Obj} (hg : (w.alloc o).grownBy w1 (some w.heap.size)) : Below w.heap.size w w1 :=
 ((Below.refl w.heap.size w).alloc (Nat.le_refl _) o).grown hg (by simp) (fun k hk => (by have h : w.heap.size = k := Option.some.inj hk; omega))
set_option maxHeartbeats 1600000 in
theorem cloneN24 {w : World} {a : Option Addr} {c : Nat} {xs : List Int} {B : Nat} (h : w.ownsRow B 3 1 (.slice a xs.length c) xs.length (xs.map (Value.int .i64))) (hl : xs.length <= 1000) : Calls Tryz.prog 30 #[.slice a xs.length c] w fun e w' => ∃ u, e = .returned u /\ w'.ownsRow w.heap.size 3 1 u xs.length (xs.map (Value.int .i64)) /\ Below w.heap.size w w' := by
 obtain ⟨i0, hi, hz0, hz1, hz2⟩ := info_parts infoIntN
 have h0 := h
 rcases h with ⟨hl0, ⟨e1, e2⟩ | ⟨g, cap, cur, e1, hb, hh, hnc, hcm, hcs, ht⟩⟩
 ·injection e1 with e1 e3 e4
  subst e1 e4
  obtain rfl : xs = [] := List.eq_nil_of_length_eq_zero e2
  have heq : ∀ wx : World, (Go.binOp .eql 32 (.slice none 0 0) (.slice none 0 0)).run Tryz.prog wx = .ok (.bool true) wx := fun _ => by kernel_rfl
  clear h0
  go_enter Tryz.func30, Tryz.ntmps30
  go_wp2
  go_ret
  exact ⟨_, rfl, World.ownsRow_nil _ _ _ _, Below.refl _ _⟩
 ·injection e1 with e1 e3 e4
  subst e1 e4
  have hne : ∀ j u, (xs.map (Value.int .i64))[j]? = some u -> (w.alloc (.cells #[] 3)).cell? ((⟨g, 0, none⟩ : Addr).add j) = some u := fun j u hj => by
   rw [Addr.add_lit, Nat.zero_add]
   have := h0.cells (g := g) rfl j u hj
   rw [Addr.add_lit, Nat.zero_add] at this
   exact Lib.cell?_alloc_some _ this
  have heq : ∀ wx : World, (Go.binOp .eql 32 (.slice (some ⟨g, 0, none⟩) xs.length c) (.slice none 0 0)).run Tryz.prog wx = .ok (.bool false) wx := fun _ => by kernel_rfl
  clear ht hcs hh h0
  go_enter Tryz.func30, Tryz.ntmps30
  go_wp2_with (at_builtin; go_must (refine wpList_append_own_at _ rfl _ _ 32 rfl w.heap.size 3 i0 _ 1 8 Tryz.underlying32 hi hz0 hz1 hz2 rfl (by decide) (.slice (some ⟨w.heap.size, 0, none⟩) 0 0) 0 [] rfl (own_zero24 w _ _) ⟨g, 0, none⟩ xs.length c (xs.map (Value.int .i64)) rfl (by simp) hne (by intro u hu; obtain ⟨x, _, rfl⟩ := List.mem_map.1 hu; rfl) (by unfold maxLen; omega) (by omega) (by simp) ?_); intro v1 w1 hown hg _ _; go_must (have HB := keepG (grown_new25 hg); have HO := keepG hown; obtain ⟨va, vc, ev⟩ := own_shape hown; subst ev; clear hown hg))
  go_ret
  exact ⟨_, rfl, (by simpa using HO.out), HB.out⟩
set_option maxHeartbeats 1600000 in
theorem cloneI24 {w : World} {a : Option Addr} {c : Nat} {xs : List In} {B : Nat} (h : w.ownsRow B 74 5 (.slice a xs.length c) xs.length (flat xs)) (hl : xs.length <= 1000) : Calls Tryz.prog 31 #[.slice a xs.length c] w fun e w' => ∃ u, e = .returned u /\ w'.ownsRow w.heap.size 74 5 u xs.length (flat xs) /\ Below w.heap.size w w' := by
 obtain ⟨i0, hi, hz0, hz1, hz2⟩ := info_parts infoInst24
 have h0 := h
 rcases h with ⟨hl0, ⟨e1, e2⟩ | ⟨g, cap, cur, e1, hb, hh, hnc, hcm, hcs, ht⟩⟩
 ·injection e1 with e1 e3 e4
  subst e1 e4
  obtain rfl : xs = [] := List.eq_nil_of_length_eq_zero e2
  have heq : ∀ wx : World, (Go.binOp .eql 37 (.slice none 0 0) (.slice none 0 0)).run Tryz.prog wx = .ok (.bool true) wx := fun _ => by kernel_rfl
  clear h0
  go_enter Tryz.func31, Tryz.ntmps31
  go_wp2
  go_ret
  exact ⟨_, rfl, World.ownsRow_nil _ _ _ _, Below.refl _ _⟩
 ·injection e1 with e1 e3 e4
  subst e1 e4
  have hne : ∀ j u, (flat xs)[j]? = some u -> (w.alloc (.cells #[] 74)).cell? ((⟨g, 0, none⟩ : Addr).add j) = some u := fun j u hj => by
   rw [Addr.add_lit, Nat.zero_add]
   have := h0.cells (g := g) rfl j u hj
   rw [Addr.add_lit, Nat.zero_add] at this
   exact Lib.cell?_alloc_some _ this
  have heq : ∀ wx : World, (Go.binOp .eql 37 (.slice (some ⟨g, 0, none⟩) xs.length c) (.slice none 0 0)).run Tryz.prog wx = .ok (.bool false) wx := fun _ => by kernel_rfl
  clear ht hcs hh h0
  go_enter Tryz.func31, Tryz.ntmps31
  go_wp2_with (at_builtin; go_must (refine wpList_append_own_at _ rfl _ _ 37 rfl w.heap.size 74 i0 _ 5 40 Tryz.underlying37 hi hz0 hz1 hz2 rfl (by decide) (.slice (some ⟨w.heap.size, 0, none⟩) 0 0) 0 [] rfl (own_zero24 w _ _) ⟨g, 0, none⟩ xs.length c (flat xs) rfl (by rw [flat_len]) hne (flat_one xs) (by unfold maxLen; omega) (by omega) (by simp) ?_); intro v1 w1 hown hg _ _; go_must (have HB := keepG (grown_new25 hg); have HO := keepG hown; obtain ⟨va, vc, ev⟩ := own_shape hown; subst ev; clear hown hg))
  go_ret
  exact ⟨_, rfl, (by simpa using HO.out), HB.out⟩
section
variable {w w' : World} {b bt br bc : Nat} {G H : Ft} {r : Rg}
set_option maxHeartbeats 12800000 in
theorem lmodule {Q : Ending -> World -> Prop} (h : Lr w b bt br bc G r) (hk : r.Ok) (n : Int)
  (HYES : Hid (r.st n <= 1 -> ∀ um uc w', w'.ownsRow w.heap.size 3 1 um (r.pg n).ms.length ((r.pg n).ms.map (Value.int .i64)) -> w'.ownsRow w.heap.size 74 5 uc (r.pg n).xs.length (flat (r.pg n).xs) -> Below w.heap.size w w' -> Q (.returned (.tuple #[.agg #[um, uc], .bool true])) w'))
  (HNO : Hid (r.st n = 2 -> ∀ w', Below w.heap.size w w' -> Q (.returned (.tuple #[.agg #[.slice none 0 0, .slice none 0 0], .bool false])) w')) :
  Calls Tryz.prog 11 #[.pointer (some ⟨b, 0, none⟩), .int .i64 n] w Q := by
 obtain ⟨F, gc, P, ul, L, ut, T, M, h1, rfl, h2, h3⟩ := h.ex
 have hlt := (h2.lens hk).1
 have hLl : L.length <= 16 := by omega
 have hTl : T.length <= 16 := by omega
 obtain ⟨la, lc, eu⟩ := own_shape h1.liv
 obtain ⟨ta, tc, ev⟩ := own_shape h1.ret
 simp only at eu ev
 subst eu ev
 obtain ⟨X, HX, HpX, HBX⟩ : ∃ X, Hid (w.alloc (.cells #[.slice none 0 0, .slice none 0 0] 39) = X) /\ Hid (Hp X w.heap.size 39 [.slice none 0 0, .slice none 0 0]) /\ Hid (Below w.heap.size w X) := ⟨_, rfl, Hp.new w _ _, below_allocG _ _⟩
 obtain ⟨Z, HZ, HpZ, HBZ⟩ : ∃ Z, Hid (X.alloc (.cells #[.slice la L.length lc, .slice ta T.length tc] 46) = Z) /\ Hid (Hp Z X.heap.size 46 [.slice la L.length lc, .slice ta T.length tc]) /\ Hid (Below X.heap.size X Z) := ⟨_, rfl, Hp.new X _ _, below_allocG _ _⟩
 have HM0 := keepG (fun (wr : World) (hb : Below w.heap.size w wr) => Mr.below h1 hb)
 have hst := stP_le hk.sb n
 rw [<- Rg.st_eq] at hst
 have HIL := keepG (h2.idxL n)
 have HIT := keepG (h2.idxT hk n)
 have HML := keepG (fun i (hi : i < L.length) => h2.mdL _ (getD_memP L i hi))
 have HMT := keepG (fun i (hi : i < T.length) => h2.mdT _ (getD_memP T i hi))
 have HMM := keepG h3
 have HMS := keepG (fun (q : Md) (hq : q ∈ M) => h1.mod q hq)
 have x5 := (Mr.below h1 HBX.out).cell (i := 5) rfl
 have x6 := (Mr.below h1 HBX.out).cell (i := 6) rfl
 have z5 := (Mr.below (Mr.below h1 HBX.out) HBZ.out).cell (i := 5) rfl
 have z6 := (Mr.below (Mr.below h1 HBX.out) HBZ.out).cell (i := 6) rfl
 try simp only at x5 x6 z5 z6
 have HWZ := keepG (HBX.out.trans (HBZ.out.mono HBX.out.size))
 clear h h1 h2 h3 hlt
 go_enter Tryz.func11, Tryz.ntmps11
 go_wp2_with (rw [HX.out])
 refine wp_region_held_drew (S := fun w' => w'.cell? ⟨b, 5, none⟩ = some (.slice la L.length lc) /\ w'.cell? ⟨b, 6, none⟩ = some (.slice ta T.length tc)) (by kernel_rfl) ⟨x5, x6⟩ (fun hHeld => ?_)
 refine tkGo [0, 1, 2, 3, 4, 5, 6, 7, 10] ?_
 repeat (refine tkO (v := ?_) rfl ?_ ?_; rotate_left; (intro wy hSw; (try dsimp only at hSw); go_simp; (first | done | with_reducible rfl)); try simp only [Act.put, p1q, p2q, p3q, p4q, p5q, p6q])
 refine tkEnd ?_
 refine runO 8 (by kernel_rfl) rfl (by rfl) (fun KK hK => ?_)
 go_simp
 rw [HZ.out]
 refine hK.out _ _ ⟨z5, z6⟩ (fun hHeld => ?_)
 clear hK KK
 try simp only [Act.put, p1q, p2q, p3q, p4q, p5q, p6q]
 refine tkGo [9] ?_
 repeat (refine tkO (v := ?_) rfl ?_ ?_; rotate_left; (intro wy hSw; (try dsimp only at hSw); go_simp; (first | done | with_reducible rfl)); try simp only [Act.put, p1q, p2q, p3q, p4q, p5q, p6q])
 refine tkEnd ?_
 refine wpAnyH_done (by kernel_rfl) ?_ _
 clear hHeld x5 x6 z5 z6
 go_wp2
 go_loopw [20] (fun i wr => ∃ j : Nat, j <= 2 /\ i = .int .i64 j /\ Hid (1 <= j -> r.st n ≠ 0) /\ Hid (2 <= j -> r.st n ≠ 1) /\ Hid (Below Z.heap.size Z wr)) (fun i _ => 2 - (intOf i).toNat)
 case atStart => exact ⟨0, by omega, rfl, (show 1 <= 0 -> _ from fun h => by omega), (show 2 <= 0 -> _ from fun h => by omega), ⟨rfl, rfl, rfl, Nat.le_refl _, fun _ _ => rfl⟩⟩
 case round =>
  rename_i wr
  obtain ⟨j, hj, rfl, HJ1, HJ2, HB⟩ := hrel
  have HBW := keepG (HWZ.out.trans (HB.out.mono HWZ.out.size))
  have HPX := keepG (HpX.out.below (HBZ.out.trans (HB.out.mono HBZ.out.size)) HpX.out.lt)
  have HPZ := keepG (HpZ.out.below HB.out HpZ.out.lt)
  have v0 := HPZ.out.cell (j := 0) rfl
  have v1 := HPZ.out.cell (j := 1) rfl
  have t0 := HPX.out.cell (j := 0) rfl
  have t1 := HPX.out.cell (j := 1) rfl
  have s0 := HPX.out.frozen 0
  have s1 := HPX.out.frozen 1
  by_cases hj0 : j = 0
  ·subst hj0
   have HF := keepG (lfind (own_seesG pwC_len Pw.nil (HM0.out wr HBW.out).liv) (show L.length <= 1000 by omega) n rfl)
   try simp only at HF
   by_cases hs : r.st n = 0
   ·obtain ⟨i, hi, hn, hz⟩ := HIL.out.1 hs
    rw [hz] at HF
    have hi0 : (i : Int) ≥ 0 := by omega
    have hiI : (i : Int) < L.length := by omega
    have hmd := HML.out i hi
    obtain ⟨g, ea, hgl, hat⟩ : ∃ g, la = some ⟨g, 0, none⟩ /\ g < w.heap.size /\ ∀ wx, Below w.heap.size w wx -> (wx.cell? ⟨g, i * 4 + 1, none⟩ = some (L.getD i Pw.nil).md.um /\ wx.cell? ⟨g, i * 4 + 2, none⟩ = some (L.getD i Pw.nil).md.uc) := by
     have h1 := HM0.out w (Below.refl _ _)
     obtain ⟨g, cap, e, _, hgl, _, _, hat⟩ := own_atG pwC_len Pw.nil h1.liv (by show 0 < L.length; omega)
     simp only at e
     injection e with e1 _ e2
     refine ⟨g, e1, hgl, fun wx hb => ?_⟩
     have hc : ∀ j, wx.cell? ⟨g, j, none⟩ = w.cell? ⟨g, j, none⟩ := fun j => hb.cell (p := ⟨g, j, none⟩) hgl
     rw [hc, hc]
     exact ⟨(hat i hi 1 (by omega)).1, (hat i hi 2 (by omega)).1⟩
    subst ea
    have hmem := HMM.out _ (List.mem_append_left T (getD_memP L i hi))
    obtain ⟨q, HQ⟩ : ∃ q, Hid (L.getD i Pw.nil = q) := ⟨_, rfl⟩
    rw [HQ.out] at hmd hat hmem hn
    have hin := HMS.out _ hmem
    obtain ⟨qn, ⟨um, uc, qms, qxs⟩, qg⟩ := q
    obtain ⟨a1, c1, e1⟩ := own_shape hin.om
    obtain ⟨a2, c2, e2⟩ := own_shape hin.oc
    try simp only at e1 e2 hn hmd hat
    have hn := hn.symm
    subst e1 e2 hn
    have e3 : (r.pg n).ms = qms := hmd.1
    have e4 : (r.pg n).xs = qxs := hmd.2
    have HE3 := keepG e3
    have HE4 := keepG e4
    have hm4 : qms.length <= 4 := by
     have := hk.ms (r.pg n) (by
      have hin2 := Rg.st_in (r := r) (n := n) (by rw [hs]; decide)
      unfold Rg.pg
      rw [if_pos hin2.1]
      have hlt2 : (n - 1).toNat < r.ps.length := by omega
      rw [List.getD_eq_getElem?_getD, List.getElem?_eq_getElem hlt2]
      exact List.getElem_mem _)
     rw [e3] at this
     exact nodup_le 4 qms this.1 (fun x hx => by have := this.2 x hx; have := hk.mp; omega)
    have hx64 : qxs.length <= 64 := hin.wx
    have HIN := keepG hin
    have HAT := keepG hat
    have HST : Hid (r.st n <= 1) := (show r.st n <= 1 by omega)
    clear hat hmem hin hmd e3 e4 hs hz
    go_wp2_with (first
     | (go_at_call 29; go_must (refine HF.out.mono ?_); rintro e5 w5 ⟨rfl, g5⟩; go_must (have HB5 := keepG (HBW.out.trans (g5.mono HBW.out.size)); have HP5 := keepG (HPX.out.below g5 HPX.out.lt); obtain ⟨m0, m1⟩ := HAT.out w5 HB5.out; obtain ⟨W1, W2, HW1, HW2, ⟨n0, n1⟩, ⟨f0, f1⟩, HP2, HB2⟩ := boxM24 w5 (.slice a1 qms.length c1) (.slice a2 qxs.length c2); have HB6 := keepG (HB5.out.trans (HB2.out.mono HB5.out.size)); have HP6 := keepG (HP5.out.below HB2.out HP5.out.lt); have p0 := HP2.out.cell (j := 0) rfl; have p1 := HP2.out.cell (j := 1) rfl; have HI6 := keepG (HIN.out.chg (G := fun _ => False) (Chg.of_below HB6.out) (fun _ e => e.elim)); have HB5L : Hid (w.heap.size < w5.heap.size) := Nat.lt_of_lt_of_le HPX.out.lt g5.size; clear g5 t0 t1 s0 s1 v0 v1))
     | (rw [HW1.out])
     | (rw [HW2.out]))
    refine wp_region_held_drew (S := fun w' => w'.cell? ⟨w5.heap.size, 0, none⟩ = some (.slice a1 qms.length c1) /\ w'.cell? ⟨w5.heap.size, 1, none⟩ = some (.slice a2 qxs.length c2)) (by kernel_rfl) ⟨p0, p1⟩ (fun hHeld => ?_)
    refine tkGo [0, 1, 3, 4] ?_
    repeat (refine tkO (v := ?_) rfl ?_ ?_; rotate_left; (intro wy hSw; (try dsimp only at hSw); go_simp; (first | done | with_reducible rfl)); try simp only [Act.put, p1q, p2q, p3q, p4q, p5q, p6q])
    refine tkEnd ?_
    refine runO 2 (by kernel_rfl) rfl (by rfl) (fun KK hK => ?_)
    go_simp
    go_at_call 30
    refine (cloneN24 (w := W2.drew) (own_below HI6.out.om (below_drG (Below.refl _ _)) (Nat.le_refl _)) (by omega)).mono ?_
    rintro e7 w7 ⟨u7, rfl, o7, g7⟩
    have hb7 : Below W2.heap.size W2 w7 := (below_drG (Below.refl _ _)).trans g7
    have p07 := (HP2.out.below hb7 HP2.out.lt).cell (j := 0) rfl
    have p17 := (HP2.out.below hb7 HP2.out.lt).cell (j := 1) rfl
    have HB7 := keepG (HB6.out.trans (hb7.mono HB6.out.size))
    have HO7 := keepG o7
    have HP7 := keepG (HP6.out.below hb7 HP6.out.lt)
    have HQ7 := keepG (HP2.out.below hb7 HP2.out.lt)
    have HZ67 : Hid (W2.heap.size <= w7.heap.size) := hb7.size
    have HI7 := keepG (HI6.out.chg (G := fun _ => False) (Chg.of_below hb7) (fun _ e => e.elim))
    obtain ⟨ya, yc, ey⟩ := own_shape o7
    subst ey
    clear o7 g7 hb7
    go_simp
    refine hK.out _ _ ⟨p07, p17⟩ (fun hHeld => ?_)
    clear hK KK
    try simp only [Act.put, p1q, p2q, p3q, p4q, p5q, p6q]
    refine runO 5 (by kernel_rfl) rfl (by rfl) (fun KK hK => ?_)
    go_simp
    go_at_call 31
    refine (cloneI24 HI7.out.oc (by omega)).mono ?_
    rintro e8 w8 ⟨u8, rfl, o8, g8⟩
    have p08 := (HQ7.out.below g8 HQ7.out.lt).cell (j := 0) rfl
    have p18 := (HQ7.out.below g8 HQ7.out.lt).cell (j := 1) rfl
    have HQ8 := keepG (HQ7.out.below g8 HQ7.out.lt)
    have HB8 := keepG (HB7.out.trans (g8.mono HB7.out.size))
    have HO8 := keepG (own_below HO7.out g8 (Nat.le_refl _))
    have HR8 := keepG o8
    have HP8 := keepG (HP7.out.below g8 HP7.out.lt)
    have t0 := HP8.out.cell (j := 0) rfl
    have t1 := HP8.out.cell (j := 1) rfl
    have s0 := HP8.out.frozen 0
    have s1 := HP8.out.frozen 1
    obtain ⟨za, zc, ez⟩ := own_shape o8
    subst ez
    have hz7 := HB7.out.size
    have hz5 := HB5.out.size
    have hz6 : W2.heap.size <= w7.heap.size := HZ67.out
    clear o8 g8
    go_simp
    refine hK.out _ _ ⟨p08, p18⟩ (fun hHeld => ?_)
    clear hK KK
    try simp only [Act.put, p1q, p2q, p3q, p4q, p5q, p6q]
    refine tkGo [6] ?_
    repeat (refine tkO (v := ?_) rfl ?_ ?_; rotate_left; (intro wy hSw; (try dsimp only at hSw); go_simp; (first | done | with_reducible rfl)); try simp only [Act.put, p1q, p2q, p3q, p4q, p5q, p6q])
    refine tkEnd ?_
    refine runO 7 (by kernel_rfl) rfl (by rfl) (fun KK hK => ?_)
    go_simp
    obtain ⟨k1, k2⟩ := two_setsM (wr := w8) (u := .slice ya qms.length yc) (v := .slice za qxs.length zc) HP8.out rfl HB8.out (Nat.le_refl _)
    have hne : ∀ k, k = w.heap.size -> ¬ (Value.slice ya qms.length yc).ownBlock = some k := fun k e g => by subst e; exact own_type10 HO8.out HP8.out (by decide) g
    have hne2 : ∀ k, k = w.heap.size -> ¬ (Value.slice za qxs.length zc).ownBlock = some k := fun k e g => by subst e; exact own_type10 HR8.out HP8.out (by decide) g
    have HOA := keepG (own_chg (own_chg HO8.out (Chg.set w8 w.heap.size 0 (.slice ya qms.length yc)) (fun k hk e => hne k e hk)) (Chg.set _ w.heap.size 1 (.slice za qxs.length zc)) (fun k hk e => hne k e hk))
    have HOB := keepG (own_chg (own_chg HR8.out (Chg.set w8 w.heap.size 0 (.slice ya qms.length yc)) (fun k hk e => hne2 k e hk)) (Chg.set _ w.heap.size 1 (.slice za qxs.length zc)) (fun k hk e => hne2 k e hk))
    have HK1 := keepG k1
    have HK2 := keepG k2
    have hxz := HBX.out.size
    have HQ9 := keepG ((HQ8.out.far (i := 0) (v := .slice ya qms.length yc) (b' := w.heap.size) (by have := HpX.out.lt; have := HBW.out.size; have := HB5L.out; omega)).far (i := 1) (v := .slice za qxs.length zc) (b' := w.heap.size) (by have := HpX.out.lt; have := HB5L.out; omega))
    have p09 := HQ9.out.cell (j := 0) rfl
    have p19 := HQ9.out.cell (j := 1) rfl
    clear k1 k2 hne hne2
    refine hK.out _ _ ⟨p09, p19⟩ (fun hHeld => ?_)
    clear hK KK
    try simp only [Act.put, p1q, p2q, p3q, p4q, p5q, p6q]
    refine tkGo [8] ?_
    repeat (refine tkO (v := ?_) rfl ?_ ?_; rotate_left; (intro wy hSw; (try dsimp only at hSw); go_simp; (first | done | with_reducible rfl)); try simp only [Act.put, p1q, p2q, p3q, p4q, p5q, p6q])
    refine tkEnd ?_
    refine wpAnyH_done (by kernel_rfl) ?_ _
    clear hHeld
    go_wp2
    refine box_retM rfl rfl rfl HK1.out (HYES.out HST.out _ _ _ ?_ ?_ HK2.out)
    ·rw [HE3.out]; exact own_lowG HOA.out (by have := HB6.out.size; show w.heap.size <= W2.drew.heap.size; exact this)
    ·rw [HE4.out]; exact own_lowG HOB.out HB7.out.size
   ·rw [HIL.out.2 hs] at HF
    go_wp2_with (go_at_call 29; go_must (refine HF.out.mono ?_); rintro e5 w5 ⟨rfl, g5⟩; go_must (have HB5 := keepG (HB.out.trans (g5.mono HB.out.size)); clear g5))
    go_roundw
    case rel => exact ⟨1, by omega, by go_num, (show 1 <= 1 -> _ from fun _ => hs), (show 2 <= 1 -> _ from fun h => by omega), HB5.out⟩
    case measure => simp [intOf]
  by_cases hj1 : j = 1
  ·subst hj1
   have HF := keepG (lfind (own_seesG pwC_len Pw.nil (HM0.out wr HBW.out).ret) (show T.length <= 1000 by omega) n rfl)
   try simp only at HF
   by_cases hs : r.st n = 1
   ·obtain ⟨i, hi, hn, hz⟩ := HIT.out.1 hs
    rw [hz] at HF
    have hi0 : (i : Int) ≥ 0 := by omega
    have hiI : (i : Int) < T.length := by omega
    have hmd := HMT.out i hi
    obtain ⟨g, ea, hgl, hat⟩ : ∃ g, ta = some ⟨g, 0, none⟩ /\ g < w.heap.size /\ ∀ wx, Below w.heap.size w wx -> (wx.cell? ⟨g, i * 4 + 1, none⟩ = some (T.getD i Pw.nil).md.um /\ wx.cell? ⟨g, i * 4 + 2, none⟩ = some (T.getD i Pw.nil).md.uc) := by
     have h1 := HM0.out w (Below.refl _ _)
     obtain ⟨g, cap, e, _, hgl, _, _, hat⟩ := own_atG pwC_len Pw.nil h1.ret (by show 0 < T.length; omega)
     simp only at e
     injection e with e1 _ e2
     refine ⟨g, e1, hgl, fun wx hb => ?_⟩
     have hc : ∀ j, wx.cell? ⟨g, j, none⟩ = w.cell? ⟨g, j, none⟩ := fun j => hb.cell (p := ⟨g, j, none⟩) hgl
     rw [hc, hc]
     exact ⟨(hat i hi 1 (by omega)).1, (hat i hi 2 (by omega)).1⟩
    subst ea
    have hmem := HMM.out _ (List.mem_append_right L (getD_memP T i hi))
    obtain ⟨q, HQ⟩ : ∃ q, Hid (T.getD i Pw.nil = q) := ⟨_, rfl⟩
    rw [HQ.out] at hmd hat hmem hn
    have hin := HMS.out _ hmem
    obtain ⟨qn, ⟨um, uc, qms, qxs⟩, qg⟩ := q
    obtain ⟨a1, c1, e1⟩ := own_shape hin.om
    obtain ⟨a2, c2, e2⟩ := own_shape hin.oc
    try simp only at e1 e2 hn hmd hat
    have hn := hn.symm
    subst e1 e2 hn
    have e3 : (r.pg n).ms = qms := hmd.1
    have e4 : (r.pg n).xs = qxs := hmd.2.1
    have HE3 := keepG e3
    have HE4 := keepG e4
    have hm4 : qms.length <= 4 := by
     have := hk.ms (r.pg n) (by
      have hin2 := Rg.st_in (r := r) (n := n) (by rw [hs]; decide)
      unfold Rg.pg
      rw [if_pos hin2.1]
      have hlt2 : (n - 1).toNat < r.ps.length := by omega
      rw [List.getD_eq_getElem?_getD, List.getElem?_eq_getElem hlt2]
      exact List.getElem_mem _)
     rw [e3] at this
     exact nodup_le 4 qms this.1 (fun x hx => by have := this.2 x hx; have := hk.mp; omega)
    have hx64 : qxs.length <= 64 := hin.wx
    have HIN := keepG hin
    have HAT := keepG hat
    have HST : Hid (r.st n <= 1) := (show r.st n <= 1 by omega)
    clear hat hmem hin hmd e3 e4 hs hz
    go_wp2_with (first
     | (go_at_call 29; go_must (refine HF.out.mono ?_); rintro e5 w5 ⟨rfl, g5⟩; go_must (have HB5 := keepG (HBW.out.trans (g5.mono HBW.out.size)); have HP5 := keepG (HPX.out.below g5 HPX.out.lt); obtain ⟨m0, m1⟩ := HAT.out w5 HB5.out; obtain ⟨W1, W2, HW1, HW2, ⟨n0, n1⟩, ⟨f0, f1⟩, HP2, HB2⟩ := boxM24 w5 (.slice a1 qms.length c1) (.slice a2 qxs.length c2); have HB6 := keepG (HB5.out.trans (HB2.out.mono HB5.out.size)); have HP6 := keepG (HP5.out.below HB2.out HP5.out.lt); have p0 := HP2.out.cell (j := 0) rfl; have p1 := HP2.out.cell (j := 1) rfl; have HI6 := keepG (HIN.out.chg (G := fun _ => False) (Chg.of_below HB6.out) (fun _ e => e.elim)); have HB5L : Hid (w.heap.size < w5.heap.size) := Nat.lt_of_lt_of_le HPX.out.lt g5.size; clear g5 t0 t1 s0 s1 v0 v1))
     | (rw [HW1.out])
     | (rw [HW2.out]))
    refine wp_region_held_drew (S := fun w' => w'.cell? ⟨w5.heap.size, 0, none⟩ = some (.slice a1 qms.length c1) /\ w'.cell? ⟨w5.heap.size, 1, none⟩ = some (.slice a2 qxs.length c2)) (by kernel_rfl) ⟨p0, p1⟩ (fun hHeld => ?_)
    refine tkGo [0, 1, 3, 4] ?_
    repeat (refine tkO (v := ?_) rfl ?_ ?_; rotate_left; (intro wy hSw; (try dsimp only at hSw); go_simp; (first | done | with_reducible rfl)); try simp only [Act.put, p1q, p2q, p3q, p4q, p5q, p6q])
    refine tkEnd ?_
    refine runO 2 (by kernel_rfl) rfl (by rfl) (fun KK hK => ?_)
    go_simp
    go_at_call 30
    refine (cloneN24 (w := W2.drew) (own_below HI6.out.om (below_drG (Below.refl _ _)) (Nat.le_refl _)) (by omega)).mono ?_
    rintro e7 w7 ⟨u7, rfl, o7, g7⟩
    have hb7 : Below W2.heap.size W2 w7 := (below_drG (Below.refl _ _)).trans g7
    have p07 := (HP2.out.below hb7 HP2.out.lt).cell (j := 0) rfl
    have p17 := (HP2.out.below hb7 HP2.out.lt).cell (j := 1) rfl
    have HB7 := keepG (HB6.out.trans (hb7.mono HB6.out.size))
    have HO7 := keepG o7
    have HP7 := keepG (HP6.out.below hb7 HP6.out.lt)
    have HQ7 := keepG (HP2.out.below hb7 HP2.out.lt)
    have HZ67 : Hid (W2.heap.size <= w7.heap.size) := hb7.size
    have HI7 := keepG (HI6.out.chg (G := fun _ => False) (Chg.of_below hb7) (fun _ e => e.elim))
    obtain ⟨ya, yc, ey⟩ := own_shape o7
    subst ey
    clear o7 g7 hb7
    go_simp
    refine hK.out _ _ ⟨p07, p17⟩ (fun hHeld => ?_)
    clear hK KK
    try simp only [Act.put, p1q, p2q, p3q, p4q, p5q, p6q]
    refine runO 5 (by kernel_rfl) rfl (by rfl) (fun KK hK => ?_)
    go_simp
    go_at_call 31
    refine (cloneI24 HI7.out.oc (by omega)).mono ?_
    rintro e8 w8 ⟨u8, rfl, o8, g8⟩
    have p08 := (HQ7.out.below g8 HQ7.out.lt).cell (j := 0) rfl
    have p18 := (HQ7.out.below g8 HQ7.out.lt).cell (j := 1) rfl
    have HQ8 := keepG (HQ7.out.below g8 HQ7.out.lt)
    have HB8 := keepG (HB7.out.trans (g8.mono HB7.out.size))
    have HO8 := keepG (own_below HO7.out g8 (Nat.le_refl _))
    have HR8 := keepG o8
    have HP8 := keepG (HP7.out.below g8 HP7.out.lt)
    have t0 := HP8.out.cell (j := 0) rfl
    have t1 := HP8.out.cell (j := 1) rfl
    have s0 := HP8.out.frozen 0
    have s1 := HP8.out.frozen 1
    obtain ⟨za, zc, ez⟩ := own_shape o8
    subst ez
    have hz7 := HB7.out.size
    have hz5 := HB5.out.size
    have hz6 : W2.heap.size <= w7.heap.size := HZ67.out
    clear o8 g8
    go_simp
    refine hK.out _ _ ⟨p08, p18⟩ (fun hHeld => ?_)
    clear hK KK
    try simp only [Act.put, p1q, p2q, p3q, p4q, p5q, p6q]
    refine tkGo [6] ?_
    repeat (refine tkO (v := ?_) rfl ?_ ?_; rotate_left; (intro wy hSw; (try dsimp only at hSw); go_simp; (first | done | with_reducible rfl)); try simp only [Act.put, p1q, p2q, p3q, p4q, p5q, p6q])
    refine tkEnd ?_
    refine runO 7 (by kernel_rfl) rfl (by rfl) (fun KK hK => ?_)
    go_simp
    obtain ⟨k1, k2⟩ := two_setsM (wr := w8) (u := .slice ya qms.length yc) (v := .slice za qxs.length zc) HP8.out rfl HB8.out (Nat.le_refl _)
    have hne : ∀ k, k = w.heap.size -> ¬ (Value.slice ya qms.length yc).ownBlock = some k := fun k e g => by subst e; exact own_type10 HO8.out HP8.out (by decide) g
    have hne2 : ∀ k, k = w.heap.size -> ¬ (Value.slice za qxs.length zc).ownBlock = some k := fun k e g => by subst e; exact own_type10 HR8.out HP8.out (by decide) g
    have HOA := keepG (own_chg (own_chg HO8.out (Chg.set w8 w.heap.size 0 (.slice ya qms.length yc)) (fun k hk e => hne k e hk)) (Chg.set _ w.heap.size 1 (.slice za qxs.length zc)) (fun k hk e => hne k e hk))
    have HOB := keepG (own_chg (own_chg HR8.out (Chg.set w8 w.heap.size 0 (.slice ya qms.length yc)) (fun k hk e => hne2 k e hk)) (Chg.set _ w.heap.size 1 (.slice za qxs.length zc)) (fun k hk e => hne2 k e hk))
    have HK1 := keepG k1
    have HK2 := keepG k2
    have hxz := HBX.out.size
    have HQ9 := keepG ((HQ8.out.far (i := 0) (v := .slice ya qms.length yc) (b' := w.heap.size) (by have := HpX.out.lt; have := HBW.out.size; have := HB5L.out; omega)).far (i := 1) (v := .slice za qxs.length zc) (b' := w.heap.size) (by have := HpX.out.lt; have := HB5L.out; omega))
    have p09 := HQ9.out.cell (j := 0) rfl
    have p19 := HQ9.out.cell (j := 1) rfl
    clear k1 k2 hne hne2
    refine hK.out _ _ ⟨p09, p19⟩ (fun hHeld => ?_)
    clear hK KK
    try simp only [Act.put, p1q, p2q, p3q, p4q, p5q, p6q]
    refine tkGo [8] ?_
    repeat (refine tkO (v := ?_) rfl ?_ ?_; rotate_left; (intro wy hSw; (try dsimp only at hSw); go_simp; (first | done | with_reducible rfl)); try simp only [Act.put, p1q, p2q, p3q, p4q, p5q, p6q])
    refine tkEnd ?_
    refine wpAnyH_done (by kernel_rfl) ?_ _
    clear hHeld
    go_wp2
    refine box_retM rfl rfl rfl HK1.out (HYES.out HST.out _ _ _ ?_ ?_ HK2.out)
    ·rw [HE3.out]; exact own_lowG HOA.out (by have := HB6.out.size; show w.heap.size <= W2.drew.heap.size; exact this)
    ·rw [HE4.out]; exact own_lowG HOB.out HB7.out.size
   ·rw [HIT.out.2 hs] at HF
    go_wp2_with (go_at_call 29; go_must (refine HF.out.mono ?_); rintro e5 w5 ⟨rfl, g5⟩; go_must (have HB5 := keepG (HB.out.trans (g5.mono HB.out.size)); clear g5))
    go_roundw
    case rel => exact ⟨2, by omega, by go_num, (show 1 <= 2 -> _ from fun _ => HJ1.out (Nat.le_refl _)), (show 2 <= 2 -> _ from fun _ => hs), HB5.out⟩
    case measure => simp [intOf]
  ·have hj2 : j = 2 := by omega
   subst hj2
   have HS2 : Hid (r.st n = 2) := by
    have a1 := HJ1.out (by omega)
    have a2 := HJ2.out (by omega)
    show r.st n = 2
    omega
   go_wp2
   obtain ⟨k1, k2⟩ := two_setsM (u := .slice none 0 0) (v := .slice none 0 0) HPX.out rfl HBW.out (Nat.le_refl _)
   exact box_retM rfl rfl rfl k1 (HNO.out HS2.out _ k2)
end
end Go.Proofs.YtlkdniglaldilaaGreat
