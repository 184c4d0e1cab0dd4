/-
  W23RuA
  W23RuF
  W23Ru
-/
import Derived.Test.YtkondcjmhlppiaaGreatMW0
import Derived.Test.YtkondcjmhlppiaaGreatMW49
namespace Go.Proofs.YtkondcjmhlppiaaGreat
open Go.RowKit
set_option linter.unusedVariables false
set_option linter.unusedSimpArgs false
set_option maxRecDepth 1000000
set_option maxRecDepth 100000
set_option maxHeartbeats 400000000 in
theorem runC0 {w wr : World} {B b j n1 n2 nl ry gw yc gc n c : Nat} {CE : List Value} {tr tm ts tc tu : Int} {ys : List Rs} {T : List Ac} {q : Rq} {F7 : Ft} {last a : Ac} {kk k4 : Wk} (HLk : Hid (Lz w wr b F7 kk)) (HRk : Hid (Rb B n1 n2 nl CE (taC ⟨tr, tm, ts, tc, tu⟩) (.slice (some ⟨ry, 0, none⟩) ys.length yc) (.slice (some ⟨gw, 0, none⟩) T.length gc) ys T wr F7 last)) (h2 : kk.md = 2) (HQV : Hid (q.ve = (j : Int) + 5 /\ q.pg = (j : Int) /\ q.want = T /\ q.rs = ys /\ True)) (HYL : Hid (ys.length = 256)) (HYW : Hid (∀ r ∈ ys, r.wf)) (HNLW : Hid (w.heap.size <= nl)) (hjs : j <= 1000) (hn : n <= 256) (hst : WyStep q n c kk a k4) (a2 : a.k = 2) (hwt : n < T.length /\ T.getD n Ac.nil = a) : RunGoal w wr B b j n1 n2 nl ry gw yc gc n c CE tr tm ts tc tu ys T q false := by
 unfold RunGoal
 intro c0 c1 c2 c5 c6 c7 c8 c9 c10 c11 c12 c14 c16 c17 c19 c23 c24 c25 c26 c27 c28 c29 c30 c31 c32 c33 c34 c35 c36 c37 c38 c39 c40 c41 c42 c43 c44 c45 c46 c47 c48 c49 c50 c51 c52 c53 c54 c55 c56 c57 c58 c59 c60 c61 c62 c63 c64 c65 c66 c67 c68 c69 c70 c71 c72 c73 c74 c75 c76 c77 c78 c79 c80 c81 c82 c83 c84 c85 c86 c87 c88 c89 c90 c91 c92 c93 c94 c95 c96 c97 c98 c99 c100 c101 c102 c103 c104 c105 c106 c107 c108 c109 c110 c111 c112 c113 c114 c115 c116 c117 c118 c119 c120 c121 c122 c123 c124 c125 c126 c127 c128 c129 c130 c131 c132 c133 c134 c135 c136 c137 c138 c139 c140 c141 c142 c143 c144 c145 c146 c147 c148 c149 c150 c151 c152 c153 c154 c155 c156 c157 c158 c159 c160 c161 c162 c163 c164 c165 c166 c167 c168 c169 c170 c171 c172 c173 c174 c175 c176 c177 c178 c179 c180 c181 c182 c183 c184 c185 c186 c187 c188 c189 c190 c191 c192 c193 c194 c195 c196 c197 c198 c199 c200 c201 c202 c203 c204 c205 c206 c207 c208 c209 c210 c211 c212 c213 c214 c215 c216 c217 c218 c219 c220 c221 c222 c223 c224 c225 c226 c227 c228 c229 c230 c231 c232 c233 c234 c235 c236 c237 c238 c239 c240 c241 c242 c243 c244 c245 c246 c247 c248 c249 c250 c251 c252 c253 c254 c255 c256 c257 c258 c259 c260 c261 c262 c263 c264 c265 c266 c267 c268 c269 c270 c271 c272 c273 c274 c275 c276 c277 c278 c279 c280 c281 c282 c283 c284 c285 c286 c287 c288 c289 c290 c291 c292 c293 c294 c295 c296 c297 c298 c299 c300 c301 c302 c303 c304 c305 c306 c307 c308 c309 c310 c311 c312 c313 c314 c315 c316 c317 c318 c319 c320
 have HMD : Hid (((kk.md : Nat) : Int) = 2) := by show _ = _; rw [h2]; rfl
 have HQS := keepG hst.st
 have HVE : Hid (kk.ve = (j : Int) + 5 /\ kk.pg = (j : Int)) := ⟨hst.ve.trans HQV.out.1, hst.pg.trans HQV.out.2.1⟩
 have hnb : (n : Int) <= 255 := by have := hst.nb; omega
 have hn256 : (n : Int) <= 256 := by omega
 have hcb : (c : Int) <= 255 := by have := hst.cb; have := hst.nb; omega
 have hj5 : (((j : Int) + 5) != ((j : Int) + 5)) = false := by simp
 have hj0 : ((j : Int) != j) = false := by simp
 have hjw5 : IntKind.i64.wrap ((j : Int) + 5) = (j : Int) + 5 := by rw [IntKind.wrap_i64]; omega
 have K5 : Hid True := trivial
 have K6 : Hid True := trivial
 have K7 : Hid True := trivial
 have HN255 := keepG hst.nb
 obtain ⟨ak, apc, am, ao, aq, av, an⟩ := a
 have hz0' : (ak != ak) = false := by simp
 have hz1' : (apc != apc) = false := by simp
 have hz2' : (am != am) = false := by simp
 have hz3' : (ao != ao) = false := by simp
 have hz4' : (aq != aq) = false := by simp
 have hz5' : (av != av) = false := by simp
 have hz6' : (an != an) = false := by simp
 have HON := keepG hst.on
 have HCN := keepG hst.cb
 have HMODE2 := keepG h2
 clear hst h2
 obtain rfl : ak = 2 := a2
 obtain ⟨-, hm3, hO4, hs4, hans⟩ := HON.out.resolve_left (fun g => g.1 rfl)
 have hcl : c < ys.length := by have h1 := HCN.out; have h2 := HN255.out; have h3 := HYL.out; omega
 obtain ⟨⟨rE, rf, rv, ro', rk, ru⟩, HRr⟩ : ∃ r, Hid (ys.getD c Rs.nil = r) := ⟨_, rfl⟩
 rw [HQV.out.2.2.2.1, HRr.out] at hans
 have hrw : (⟨rE, rf, rv, ro', rk, ru⟩ : Rs).wf := by
  rw [<- HRr.out]
  refine HYW.out _ ?_
  rw [List.getD_eq_getElem?_getD, List.getElem?_eq_getElem hcl]
  exact List.getElem_mem _
 obtain ⟨k5, hq5, hw5⟩ := hans hcl hrw
 have HQ5 := keepG hq5
 have HW5 := keepG hw5
 have HQ4 := keepG hs4
 have HRW := keepG hrw
 have HM3 : Hid (((k4.md : Nat) : Int) = 3) := by show _ = _; rw [hm3]; rfl
 have HCLI : Hid (¬ (ys.length : Int) <= c /\ (c : Int) < ys.length) := ⟨by omega, by omega⟩
 have HCL := keepG hcl
 clear hm3 hO4 hs4 hans hcl hrw hq5 hw5 HON
 obtain ⟨hlt', hget⟩ := hwt
 have HLT := keepG hlt'
 have HGET := keepG hget
 have HLTI : Hid (¬ (T.length : Int) <= n /\ (n : Int) < T.length) := ⟨by omega, by omega⟩
 clear hlt' hget
 conv => arg 2; whnf
 go_wp2_with (first
  | (go_at_call 11; (have hq := K5; clear hq); go_must (refine HLk.out.mode.mono ?_); rintro e wa ⟨rfl, hba⟩; go_must (rw [HMD.out]; have HLa := keepG (HLk.out.below hba); have HRa := keepG (HRk.out.below hba); clear hba K5))
  | (go_at_call 14; go_must (refine HLa.out.runs.mono ?_); rintro e wb ⟨rfl, hbb⟩; go_must (rw [HVE.out.1, HVE.out.2]; have HLb := keepG (HLa.out.below hbb); have HRb' := keepG (HRa.out.below hbb); clear hbb))
  | (go_at_call 15; (have hq := K7; clear hq); go_must (refine (HLb.out.step HQS).mono ?_); rintro e wc ⟨rfl, Fc, hLc, hnc⟩; go_must (have HLc := keepG hLc; have HRc := keepG (HRb'.out.next hnc); dsimp only [acV, actV]; obtain ⟨A, HA, HAB, HBA⟩ : ∃ A, Hid (wc.alloc (.cells #[.int .i64 2, .int .i64 apc, .int .i64 am, .int .i64 ao, .int .u64 aq, .int .u64 av, .int .u64 an] 71) = A) /\ Hid (Bz A Fc wc.heap.size 71 (acC ⟨2, apc, am, ao, aq, av, an⟩)) /\ Hid (Below wc.heap.size wc A) := ⟨_, rfl, Bz.made HLc.out.lies _ _, below_allocG _ _⟩; obtain ⟨na', HNA⟩ : ∃ na', Hid (wc.heap.size = na') := ⟨_, rfl⟩; rw [HNA.out] at HAB; have HLA := keepG (HLc.out.below HBA.out); have HRA := keepG (HRc.out.below HBA.out); have HNEL : Hid (na' ≠ nl) := (by have h1 := HRc.out.la.1.lt; have h2 := HNA.out; show _ ≠ _; omega); have y0 := HAB.out.cell (j := 0) rfl; have y1 := HAB.out.cell (j := 1) rfl; have y2 := HAB.out.cell (j := 2) rfl; have y3 := HAB.out.cell (j := 3) rfl; have y4 := HAB.out.cell (j := 4) rfl; have y5 := HAB.out.cell (j := 5) rfl; have y6 := HAB.out.cell (j := 6) rfl; obtain ⟨x0, x1, x2, x3, x4, x5, x6⟩ := HRA.out.want HLT.out HGET.out; simp only at x0 x1 x2 x3 x4 x5 x6; clear hLc hnc K7))
  | (rw [HA.out, HNA.out]))
 obtain ⟨hltI', hltI2⟩ := HLTI.out
 have hltB : decide ((T.length : Int) <= n) = false := by simpa using hltI'
 have hltG : ¬ (n : Int) ≥ T.length := (by omega)
 have hltH : decide ((n : Int) ≥ T.length) = false := decide_eq_false hltG
 obtain ⟨X9, HX9, HX9', HC9, HR9⟩ := last23 nl B n1 n2 CE (taC ⟨tr, tm, ts, tc, tu⟩) (.slice (some ⟨ry, 0, none⟩) ys.length yc) (.slice (some ⟨gw, 0, none⟩) T.length gc) ys T last 2 apc am ao aq av an A
 have HLX := keepG (HLA.out.keeps HC9.out (fun j e1 e2 => HRA.out.la.2 (by rw [<- e1]; exact e2)) (fun j e => by have h1 := HNLW.out; have h2 : j = nl := e; omega))
 have HRX := keepG (HR9.out _ HRA.out)
 have HAX := keepG (HAB.out.chg HC9.out HNEL.out)
 have m0 := HRA.out.la.cell (j := 0) rfl
 have m1 := HRA.out.la.cell (j := 1) rfl
 have m2 := HRA.out.la.cell (j := 2) rfl
 have m3 := HRA.out.la.cell (j := 3) rfl
 have m4 := HRA.out.la.cell (j := 4) rfl
 have m5 := HRA.out.la.cell (j := 5) rfl
 have m6 := HRA.out.la.cell (j := 6) rfl
 have f0 := HRA.out.la.1.frozen 0
 have f1 := HRA.out.la.1.frozen 1
 have f2 := HRA.out.la.1.frozen 2
 have f3 := HRA.out.la.1.frozen 3
 have f4 := HRA.out.la.1.frozen 4
 have f5 := HRA.out.la.1.frozen 5
 have f6 := HRA.out.la.1.frozen 6
 refine wp_region_held_drew (S := fun w' => w'.cell? ⟨na', 0, none⟩ = some (.int .i64 2) /\ w'.cell? ⟨na', 1, none⟩ = some (.int .i64 apc) /\ w'.cell? ⟨na', 2, none⟩ = some (.int .i64 am) /\ w'.cell? ⟨na', 3, none⟩ = some (.int .i64 ao) /\ w'.cell? ⟨na', 4, none⟩ = some (.int .u64 aq) /\ w'.cell? ⟨na', 5, none⟩ = some (.int .u64 av) /\ w'.cell? ⟨na', 6, none⟩ = some (.int .u64 an) /\ w'.cell? ⟨gw, n * 7, none⟩ = some (.int .i64 2) /\ w'.cell? ⟨gw, n * 7 + 1, none⟩ = some (.int .i64 apc) /\ w'.cell? ⟨gw, n * 7 + 2, none⟩ = some (.int .i64 am) /\ w'.cell? ⟨gw, n * 7 + 3, none⟩ = some (.int .i64 ao) /\ w'.cell? ⟨gw, n * 7 + 4, none⟩ = some (.int .u64 aq) /\ w'.cell? ⟨gw, n * 7 + 5, none⟩ = some (.int .u64 av) /\ w'.cell? ⟨gw, n * 7 + 6, none⟩ = some (.int .u64 an)) (by kernel_rfl) ⟨y0, y1, y2, y3, y4, y5, y6, x0, x1, x2, x3, x4, x5, x6⟩ (fun hHeld => ?_)
 refine tkGo [0, 1, 2, 3, 4, 5, 6, 7, 8, 9, 10, 11, 12, 13, 14, 15, 16, 17, 18, 19, 20, 21] ?_
 repeat (refine tkO (v := ?_) rfl ?_ ?_; rotate_left; (intro wy hSw; (try dsimp only at hSw); go_simp; (first | done | with_reducible rfl)); try simp only [Act.put, p1q, p2q, p3q, p4q, p5q, p6q])
 refine tkEnd ?_
 refine tkGo [22] ?_
 refine tkO (v := .agg #[.int .i64 2, .int .i64 apc, .int .i64 am, .int .i64 ao, .int .u64 aq, .int .u64 av, .int .u64 an]) rfl ?_ ?_
 ·intro wy hSw
  obtain ⟨s0, s1, s2, s3, s4, s5, s6, r0, r1, r2, r3, r4, r5, r6⟩ := hSw
  go_simp
 refine tkEnd ?_
 try simp only [Act.put, p1q, p2q, p3q, p4q, p5q, p6q]
 refine tkGo [23, 24, 25] ?_
 repeat (refine tkO (v := ?_) rfl ?_ ?_; rotate_left; (intro wy hSw; (try dsimp only at hSw); go_simp; (first | done | with_reducible rfl)); try simp only [Act.put, p1q, p2q, p3q, p4q, p5q, p6q])
 refine tkEnd ?_
 refine tkGo [26] ?_
 refine tkO (v := .agg #[.int .i64 2, .int .i64 apc, .int .i64 am, .int .i64 ao, .int .u64 aq, .int .u64 av, .int .u64 an]) rfl ?_ ?_
 ·intro wy hSw
  obtain ⟨s0, s1, s2, s3, s4, s5, s6, r0, r1, r2, r3, r4, r5, r6⟩ := hSw
  go_simp
 refine tkEnd ?_
 try simp only [Act.put, p1q, p2q, p3q, p4q, p5q, p6q]
 refine tkGo [27, 28, 29, 30] ?_
 repeat (refine tkO (v := ?_) rfl ?_ ?_; rotate_left; (intro wy hSw; (try dsimp only at hSw); go_simp; (first | done | with_reducible rfl)); try simp only [Act.put, p1q, p2q, p3q, p4q, p5q, p6q])
 refine tkEnd ?_
 refine wpAnyH_done (by kernel_rfl) ?_ _
 obtain ⟨hclI, hclI2⟩ := HCLI.out
 go_wp2_with (first
  | (rw [HX9.out]; have z0 := HAX.out.cell (j := 0) rfl)
  | (rw [HX9'.out]; have z0 := HAX.out.cell (j := 0) rfl)
  | (go_at_call 15; go_must (refine (HLX.out.step HQ4).mono ?_); rintro e wd ⟨rfl, Fd, hLd, hnd⟩; go_must (have HLd := keepG hLd; have HRd := keepG (HRX.out.next hnd); dsimp only [acV, actV, Ac.nil]; obtain ⟨D, HD, HDB, hbD⟩ : ∃ D, Hid (wd.alloc (.cells #[.int .i64 0, .int .i64 0, .int .i64 0, .int .i64 0, .int .u64 0, .int .u64 0, .int .u64 0] 71) = D) /\ Hid (Hp D wd.heap.size 71 (acC Ac.nil)) /\ Below wd.heap.size wd D := ⟨_, rfl, Hp.new wd _ _, below_allocG _ _⟩; obtain ⟨D1, HD1, hbD1⟩ : ∃ D1, Hid (((((((D.setCell ⟨wd.heap.size, 0, none⟩ (.int .i64 0)).setCell ⟨wd.heap.size, 1, none⟩ (.int .i64 0)).setCell ⟨wd.heap.size, 2, none⟩ (.int .i64 0)).setCell ⟨wd.heap.size, 3, none⟩ (.int .i64 0)).setCell ⟨wd.heap.size, 4, none⟩ (.int .u64 0)).setCell ⟨wd.heap.size, 5, none⟩ (.int .u64 0)).setCell ⟨wd.heap.size, 6, none⟩ (.int .u64 0) = D1) /\ Below wd.heap.size wd D1 := ⟨_, rfl, hbD.trans (grown_to_below (grown_sets wd.heap.size (acC Ac.nil) D 0) (Nat.le_refl _) hbD.size)⟩; have HLD := keepG (HLd.out.below hbD1); have HRD := keepG (HRd.out.below hbD1); have e0 := HDB.out.cell (j := 0) rfl; have e1 := HDB.out.cell (j := 1) rfl; have e2 := HDB.out.cell (j := 2) rfl; have e3 := HDB.out.cell (j := 3) rfl; have e4 := HDB.out.cell (j := 4) rfl; have e5 := HDB.out.cell (j := 5) rfl; have e6 := HDB.out.cell (j := 6) rfl; have g0 := HDB.out.frozen 0; have g1 := HDB.out.frozen 1; have g2 := HDB.out.frozen 2; have g3 := HDB.out.frozen 3; have g4 := HDB.out.frozen 4; have g5 := HDB.out.frozen 5; have g6 := HDB.out.frozen 6; clear hLd hnd hbD hbD1))
  | (rw [HD.out])
  | (rw [HD1.out])
  | (go_at_call 11; go_must (refine HLD.out.mode.mono ?_); rintro e we ⟨rfl, hbe⟩; go_must (rw [HM3.out]; have HLe := keepG (HLD.out.below hbe); have HRe := keepG (HRD.out.below hbe); obtain ⟨s0, s1, s2, s3, s4, s5⟩ := HRe.out.ress HCL.out HRr.out; simp only at s0 s1 s2 s3 s4 s5; clear hbe))
  | (go_at_call 16; go_must (refine (HLe.out.answer ⟨rE, rf, rv, ro', rk, ru⟩ HRW.out HRW.out HQ5).mono ?_); rintro e wf ⟨rfl, Ff, hLf, hnf⟩; go_must (have HLf := keepG hLf; have HRf := keepG (HRe.out.next hnf); clear hLf hnf s0 s1 s2 s3 s4 s5)))
 go_roundw
 case rel => exact ⟨n + 1, c + 1, ⟨2, apc, am, ao, aq, av, an⟩, Ff, k5, by go_num, by go_num, by omega, HLf.out, HRf.out, HW5.out⟩
 case measure => simp [intOf]; omega
set_option maxHeartbeats 400000000 in
theorem runN1 {w wr : World} {B b j n1 n2 nl ry gw yc gc n c : Nat} {CE : List Value} {tr tm ts tc tu : Int} {ys : List Rs} {T : List Ac} {q : Rq} {F7 : Ft} {last a : Ac} {kk k4 : Wk} (HLk : Hid (Lz w wr b F7 kk)) (HRk : Hid (Rb B n1 n2 nl CE (taC ⟨tr, tm, ts, tc, tu⟩) (.slice (some ⟨ry, 0, none⟩) ys.length yc) (.slice (some ⟨gw, 0, none⟩) T.length gc) ys T wr F7 last)) (h2 : kk.md = 2) (HQV : Hid (q.ve = (j : Int) + 5 /\ q.pg = (j : Int) /\ q.want = T /\ q.rs = ys /\ True)) (HYL : Hid (ys.length = 256)) (HYW : Hid (∀ r ∈ ys, r.wf)) (HNLW : Hid (w.heap.size <= nl)) (hjs : j <= 1000) (hn : n <= 256) (hst : WyStep q n c kk a k4) (a2 : ¬ a.k = 2) : RunGoal w wr B b j n1 n2 nl ry gw yc gc n c CE tr tm ts tc tu ys T q true := by
 unfold RunGoal
 intro c0 c1 c2 c5 c6 c7 c8 c9 c10 c11 c12 c14 c16 c17 c19 c23 c24 c25 c26 c27 c28 c29 c30 c31 c32 c33 c34 c35 c36 c37 c38 c39 c40 c41 c42 c43 c44 c45 c46 c47 c48 c49 c50 c51 c52 c53 c54 c55 c56 c57 c58 c59 c60 c61 c62 c63 c64 c65 c66 c67 c68 c69 c70 c71 c72 c73 c74 c75 c76 c77 c78 c79 c80 c81 c82 c83 c84 c85 c86 c87 c88 c89 c90 c91 c92 c93 c94 c95 c96 c97 c98 c99 c100 c101 c102 c103 c104 c105 c106 c107 c108 c109 c110 c111 c112 c113 c114 c115 c116 c117 c118 c119 c120 c121 c122 c123 c124 c125 c126 c127 c128 c129 c130 c131 c132 c133 c134 c135 c136 c137 c138 c139 c140 c141 c142 c143 c144 c145 c146 c147 c148 c149 c150 c151 c152 c153 c154 c155 c156 c157 c158 c159 c160 c161 c162 c163 c164 c165 c166 c167 c168 c169 c170 c171 c172 c173 c174 c175 c176 c177 c178 c179 c180 c181 c182 c183 c184 c185 c186 c187 c188 c189 c190 c191 c192 c193 c194 c195 c196 c197 c198 c199 c200 c201 c202 c203 c204 c205 c206 c207 c208 c209 c210 c211 c212 c213 c214 c215 c216 c217 c218 c219 c220 c221 c222 c223 c224 c225 c226 c227 c228 c229 c230 c231 c232 c233 c234 c235 c236 c237 c238 c239 c240 c241 c242 c243 c244 c245 c246 c247 c248 c249 c250 c251 c252 c253 c254 c255 c256 c257 c258 c259 c260 c261 c262 c263 c264 c265 c266 c267 c268 c269 c270 c271 c272 c273 c274 c275 c276 c277 c278 c279 c280 c281 c282 c283 c284 c285 c286 c287 c288 c289 c290 c291 c292 c293 c294 c295 c296 c297 c298 c299 c300 c301 c302 c303 c304 c305 c306 c307 c308 c309 c310 c311 c312 c313 c314 c315 c316 c317 c318 c319 c320
 have HMD : Hid (((kk.md : Nat) : Int) = 2) := by show _ = _; rw [h2]; rfl
 have HQS := keepG hst.st
 have HVE : Hid (kk.ve = (j : Int) + 5 /\ kk.pg = (j : Int)) := ⟨hst.ve.trans HQV.out.1, hst.pg.trans HQV.out.2.1⟩
 have hnb : (n : Int) <= 255 := by have := hst.nb; omega
 have hn256 : (n : Int) <= 256 := by omega
 have hcb : (c : Int) <= 255 := by have := hst.cb; have := hst.nb; omega
 have hj5 : (((j : Int) + 5) != ((j : Int) + 5)) = false := by simp
 have hj0 : ((j : Int) != j) = false := by simp
 have hjw5 : IntKind.i64.wrap ((j : Int) + 5) = (j : Int) + 5 := by rw [IntKind.wrap_i64]; omega
 have K5 : Hid True := trivial
 have K6 : Hid True := trivial
 have K7 : Hid True := trivial
 have HN255 := keepG hst.nb
 obtain ⟨ak, apc, am, ao, aq, av, an⟩ := a
 have hz0' : (ak != ak) = false := by simp
 have hz1' : (apc != apc) = false := by simp
 have hz2' : (am != am) = false := by simp
 have hz3' : (ao != ao) = false := by simp
 have hz4' : (aq != aq) = false := by simp
 have hz5' : (av != av) = false := by simp
 have hz6' : (an != an) = false := by simp
 have HON := keepG hst.on
 have HCN := keepG hst.cb
 have HMODE2 := keepG h2
 clear hst h2
 have a2 : ¬ ak = 2 := a2
 have a2b : (ak == 2) = false := by simpa using a2
 obtain ⟨-, hwy⟩ := HON.out.resolve_right (fun g => a2 g.1)
 have HWYN := keepG hwy
 clear hwy HON
 conv => arg 2; whnf
 go_wp2_with (first
  | (go_at_call 11; (have hq := K5; clear hq); go_must (refine HLk.out.mode.mono ?_); rintro e wa ⟨rfl, hba⟩; go_must (rw [HMD.out]; have HLa := keepG (HLk.out.below hba); have HRa := keepG (HRk.out.below hba); clear hba K5))
  | (go_at_call 14; go_must (refine HLa.out.runs.mono ?_); rintro e wb ⟨rfl, hbb⟩; go_must (rw [HVE.out.1, HVE.out.2]; have HLb := keepG (HLa.out.below hbb); have HRb' := keepG (HRa.out.below hbb); clear hbb))
  | (go_at_call 15; (have hq := K7; clear hq); go_must (refine (HLb.out.step HQS).mono ?_); rintro e wc ⟨rfl, Fc, hLc, hnc⟩; go_must (have HLc := keepG hLc; have HRc := keepG (HRb'.out.next hnc); dsimp only [acV, actV]; obtain ⟨A, HA, HAB, HBA⟩ : ∃ A, Hid (wc.alloc (.cells #[.int .i64 ak, .int .i64 apc, .int .i64 am, .int .i64 ao, .int .u64 aq, .int .u64 av, .int .u64 an] 71) = A) /\ Hid (Bz A Fc wc.heap.size 71 (acC ⟨ak, apc, am, ao, aq, av, an⟩)) /\ Hid (Below wc.heap.size wc A) := ⟨_, rfl, Bz.made HLc.out.lies _ _, below_allocG _ _⟩; obtain ⟨na', HNA⟩ : ∃ na', Hid (wc.heap.size = na') := ⟨_, rfl⟩; rw [HNA.out] at HAB; have HLA := keepG (HLc.out.below HBA.out); have HRA := keepG (HRc.out.below HBA.out); have HNEL : Hid (na' ≠ nl) := (by have h1 := HRc.out.la.1.lt; have h2 := HNA.out; show _ ≠ _; omega); have y0 := HAB.out.cell (j := 0) rfl; have y1 := HAB.out.cell (j := 1) rfl; have y2 := HAB.out.cell (j := 2) rfl; have y3 := HAB.out.cell (j := 3) rfl; have y4 := HAB.out.cell (j := 4) rfl; have y5 := HAB.out.cell (j := 5) rfl; have y6 := HAB.out.cell (j := 6) rfl; clear hLc hnc K7))
  | (rw [HA.out, HNA.out]))
 obtain ⟨X9, HX9, HX9', HC9, HR9⟩ := last23 nl B n1 n2 CE (taC ⟨tr, tm, ts, tc, tu⟩) (.slice (some ⟨ry, 0, none⟩) ys.length yc) (.slice (some ⟨gw, 0, none⟩) T.length gc) ys T last ak apc am ao aq av an A
 have HLX := keepG (HLA.out.keeps HC9.out (fun j e1 e2 => HRA.out.la.2 (by rw [<- e1]; exact e2)) (fun j e => by have h1 := HNLW.out; have h2 : j = nl := e; omega))
 have HRX := keepG (HR9.out _ HRA.out)
 have HAX := keepG (HAB.out.chg HC9.out HNEL.out)
 have m0 := HRA.out.la.cell (j := 0) rfl
 have m1 := HRA.out.la.cell (j := 1) rfl
 have m2 := HRA.out.la.cell (j := 2) rfl
 have m3 := HRA.out.la.cell (j := 3) rfl
 have m4 := HRA.out.la.cell (j := 4) rfl
 have m5 := HRA.out.la.cell (j := 5) rfl
 have m6 := HRA.out.la.cell (j := 6) rfl
 have f0 := HRA.out.la.1.frozen 0
 have f1 := HRA.out.la.1.frozen 1
 have f2 := HRA.out.la.1.frozen 2
 have f3 := HRA.out.la.1.frozen 3
 have f4 := HRA.out.la.1.frozen 4
 have f5 := HRA.out.la.1.frozen 5
 have f6 := HRA.out.la.1.frozen 6
 refine wp_region_held_drew (S := fun w' => True) (by kernel_rfl) trivial (fun hHeld => ?_)
 refine tkGo [0, 1, 2, 3, 4, 5, 6, 7, 8, 9, 10, 11, 12, 13, 14, 15, 16] ?_
 repeat (refine tkO (v := ?_) rfl ?_ ?_; rotate_left; (intro wy hSw; (try dsimp only at hSw); go_simp; (first | done | with_reducible rfl)); try simp only [Act.put, p1q, p2q, p3q, p4q, p5q, p6q])
 refine tkEnd ?_
 refine wpAnyH_take (i := 17) (v := undef) rfl (by kernel_rfl) (by kernel_rfl) (by kernel_rfl) (fun _ _ _ h => h) (Or.inr ⟨by rfl, rfl⟩) (by assumption) ?_
 try simp only [Act.put, p1q, p2q, p3q, p4q, p5q, p6q]
 refine wpAnyH_take (i := 18) (v := undef) rfl (by kernel_rfl) (by kernel_rfl) (by kernel_rfl) (fun _ _ _ h => h) (Or.inr ⟨by rfl, rfl⟩) (by assumption) ?_
 try simp only [Act.put, p1q, p2q, p3q, p4q, p5q, p6q]
 refine wpAnyH_take (i := 19) (v := undef) rfl (by kernel_rfl) (by kernel_rfl) (by kernel_rfl) (fun _ _ _ h => h) (Or.inr ⟨by rfl, rfl⟩) (by assumption) ?_
 try simp only [Act.put, p1q, p2q, p3q, p4q, p5q, p6q]
 refine wpAnyH_take (i := 20) (v := undef) rfl (by kernel_rfl) (by kernel_rfl) (by kernel_rfl) (fun _ _ _ h => h) (Or.inr ⟨by rfl, rfl⟩) (by assumption) ?_
 try simp only [Act.put, p1q, p2q, p3q, p4q, p5q, p6q]
 refine wpAnyH_take (i := 21) (v := undef) rfl (by kernel_rfl) (by kernel_rfl) (by kernel_rfl) (fun _ _ _ h => h) (Or.inr ⟨by rfl, rfl⟩) (by assumption) ?_
 try simp only [Act.put, p1q, p2q, p3q, p4q, p5q, p6q]
 refine wpAnyH_take (i := 22) (v := undef) rfl (by kernel_rfl) (by kernel_rfl) (by kernel_rfl) (fun _ _ _ h => h) (Or.inr ⟨by rfl, rfl⟩) (by assumption) ?_
 try simp only [Act.put, p1q, p2q, p3q, p4q, p5q, p6q]
 refine wpAnyH_take (i := 23) (v := undef) rfl (by kernel_rfl) (by kernel_rfl) (by kernel_rfl) (fun _ _ _ h => h) (Or.inr ⟨by rfl, rfl⟩) (by assumption) ?_
 try simp only [Act.put, p1q, p2q, p3q, p4q, p5q, p6q]
 refine wpAnyH_take (i := 24) (v := undef) rfl (by kernel_rfl) (by kernel_rfl) (by kernel_rfl) (fun _ _ _ h => h) (Or.inr ⟨by rfl, rfl⟩) (by assumption) ?_
 try simp only [Act.put, p1q, p2q, p3q, p4q, p5q, p6q]
 refine wpAnyH_take (i := 25) (v := undef) rfl (by kernel_rfl) (by kernel_rfl) (by kernel_rfl) (fun _ _ _ h => h) (Or.inr ⟨by rfl, rfl⟩) (by assumption) ?_
 try simp only [Act.put, p1q, p2q, p3q, p4q, p5q, p6q]
 refine wpAnyH_take (i := 26) (v := undef) rfl (by kernel_rfl) (by kernel_rfl) (by kernel_rfl) (fun _ _ _ h => h) (Or.inr ⟨by rfl, rfl⟩) (by assumption) ?_
 try simp only [Act.put, p1q, p2q, p3q, p4q, p5q, p6q]
 refine wpAnyH_take (i := 27) (v := undef) rfl (by kernel_rfl) (by kernel_rfl) (by kernel_rfl) (fun _ _ _ h => h) (Or.inr ⟨by rfl, rfl⟩) (by assumption) ?_
 try simp only [Act.put, p1q, p2q, p3q, p4q, p5q, p6q]
 refine wpAnyH_take (i := 28) (v := undef) rfl (by kernel_rfl) (by kernel_rfl) (by kernel_rfl) (fun _ _ _ h => h) (Or.inr ⟨by rfl, rfl⟩) (by assumption) ?_
 try simp only [Act.put, p1q, p2q, p3q, p4q, p5q, p6q]
 refine tkGo [29, 30] ?_
 repeat (refine tkO (v := ?_) rfl ?_ ?_; rotate_left; (intro wy hSw; (try dsimp only at hSw); go_simp; (first | done | with_reducible rfl)); try simp only [Act.put, p1q, p2q, p3q, p4q, p5q, p6q])
 refine tkEnd ?_
 refine wpAnyH_done (by kernel_rfl) ?_ _
 go_wp2_with (first
  | (rw [HX9.out]; have z0 := HAX.out.cell (j := 0) rfl)
  | (rw [HX9'.out]; have z0 := HAX.out.cell (j := 0) rfl))
 go_roundw
 case rel => exact ⟨n + 1, c, ⟨ak, apc, am, ao, aq, av, an⟩, Fc, k4, rfl, by go_num, by omega, HLX.out, HRX.out, HWYN.out⟩
 case measure => simp [intOf]; omega
set_option maxHeartbeats 400000000 in
theorem runs_ok (lv : Value) (es : List Ev) (w : World) (h : SeesG evC 6 Ev.nil w lv es) (hev : ∀ x ∈ es, EvR w x /\ EvQ x) : Calls Tryz.prog 3 #[lv] w fun e w' => e = .returned (.bool true) /\ Below w.heap.size w w' := by
 obtain ⟨la, lc, ev, hll, hlm⟩ := h.shape
 subst ev
 have HSE : Hid (∀ wx : World, Below w.heap.size w wx -> SeesG evC 6 Ev.nil wx (.slice la es.length lc) es) := fun wx hb => h.below hb (Nat.le_refl _)
 have HEV := keepG hev
 obtain ⟨i0, hi, hz0, hzz1, hz2⟩ := info_parts Tryz.infoResE
 clear h hev
 go_enter Tryz.func3, Tryz.ntmps3
 go_wp2_with (first
  | (go_at_call 4; go_must (refine (awake23_any w).mono ?_); rintro e w1 ⟨rfl, hb1⟩; go_must (have HB1 := keepG hb1; clear hb1))
  | (go_at_call 5; go_must (refine (lznew w1).mono ?_); rintro e w2 ⟨b, F0, rfl, hL2, hS2⟩; go_must (have HL2 : Hid (Lz w w2 b F0 Wk.new) := ⟨hL2.ex, fun k hk => Nat.le_trans HB1.out.size (hS2 k hk), hL2.ok, HB1.out.trans (hL2.be.mono HB1.out.size)⟩; clear hL2 hS2)))
 clear HB1
 go_loopw [4] (fun i wr => ∃ (j : Nat) (F : Ft) (k : Wk), j <= es.length /\ j <= 40 /\ i = .int .i64 j /\ Hid (Lz w wr b F k /\ k.md = 0)) (fun i _ => es.length - (intOf i).toNat)
 case atStart => exact ⟨0, F0, Wk.new, Nat.zero_le _, Nat.zero_le _, rfl, HL2.out, rfl⟩
 case round =>
  clear HL2
  obtain ⟨j, F, k, hj, hj2, rfl, HI⟩ := hrel
  rename World => wr
  by_cases hlt : j < es.length
  ·have hltI : (j : Int) < es.length := by omega
   have hltd : decide ((j : Int) < es.length) = true := by simpa using hltI
   by_cases h2 : j < 40
   ·have h2I : (j : Int) < 40 := by omega
    have h2d : decide ((j : Int) < 40) = true := by simpa using h2I
    have hjs : j <= 1000 := by omega
    obtain ⟨p, off, ev, hc⟩ := evAt23 (HSE.out wr HI.out.1.be) hlt
    subst ev
    obtain ⟨⟨hk, ⟨ea, eb⟩, vm, vc, vr, ms, xs, rs⟩, HQ⟩ : ∃ q, Hid (es.getD j Ev.nil = q) := ⟨_, rfl⟩
    have hin : es.getD j Ev.nil ∈ es := by rw [List.getD_eq_getElem?_getD, List.getElem?_eq_getElem hlt]; exact List.getElem_mem _
    obtain ⟨hR, hQ⟩ := HEV.out _ hin
    obtain ⟨c0, c1, c2, c3, c4, c5⟩ := hc _ HQ.out
    rw [HQ.out] at hR hQ
    have hRm : SeesM w vm vc ms xs := hR.md
    have hRr : SeesR w vr rs := hR.rs
    have hEV : evIn (ea, eb) := hR.ev
    have hz1 : ms.length * 8 <= 140737488351232 /\ xs.length * 40 <= 140737488355328 := ⟨hQ.1, by have := hQ.2.1; simp only at this; omega⟩
    have hzr : rs.length * 48 <= 140737488355328 := hQ.2.2
    obtain ⟨⟨ma, mc, e1⟩, xa, xc, e2⟩ := shapeM23r hRm
    obtain ⟨ra, rc, e3⟩ : ∃ a c, vr = .slice a rs.length c := by obtain ⟨a, c, e, _⟩ := hRr; exact ⟨a, c, e⟩
    subst e1 e2 e3
    have HSM : Hid (∀ wx : World, Below w.heap.size w wx -> SeesM wx (.slice ma ms.length mc) (.slice xa xs.length xc) ms xs) := fun wx hb => hRm.below hb
    have HRS : Hid (∀ wx : World, Below w.heap.size w wx -> SeesR wx (.slice ra rs.length rc) rs) := fun wx hb => hRr.below hb (Nat.le_refl _)
    have hrl : rs.length <= 9223372036854775807 := by omega
    have hxl : xs.length <= 9223372036854775807 := by omega
    clear hR hQ hRm hRr hc hin
    obtain ⟨hook, hh1, hh2, hh3, hh4, hh5⟩ := hook_mod hk
    have hhH : Hid (isH hook = true) := by show _ = _; simp [isH]; omega
    have hjw : IntKind.i64.wrap ((j : Int) + 1) = (j : Int) + 1 := by rw [IntKind.wrap_i64]; omega
    have hjw5 : IntKind.i64.wrap ((j : Int) + 5) = (j : Int) + 5 := by rw [IntKind.wrap_i64]; omega
    -- the event's box
    obtain ⟨X, HX, HZ0, HBX⟩ : ∃ X, Hid (wr.alloc (.cells #[.int .i64 hk, .int .u64 ea, .int .u64 eb, .slice ma ms.length mc, .slice xa xs.length xc, .slice ra rs.length rc] 35) = X) /\ Hid (Bz X F wr.heap.size 35 [.int .i64 hk, .int .u64 ea, .int .u64 eb, .slice ma ms.length mc, .slice xa xs.length xc, .slice ra rs.length rc]) /\ Hid (Below wr.heap.size wr X) := ⟨_, rfl, Bz.made HI.out.1.lies _ _, below_allocG _ _⟩
    obtain ⟨n1, HN1⟩ : ∃ n1, Hid (wr.heap.size = n1) := ⟨_, rfl⟩
    rw [HN1.out] at HZ0
    have HLX := keepG (HI.out.1.below HBX.out)
    have h0 := HZ0.out.cell (j := 0) rfl
    -- what Of answers
    obtain ⟨T0, HT0⟩ : ∃ T0, Hid (ofL hook k.td = T0) := ⟨_, rfl⟩
    have hT0 : T0.Ok := by rw [<- HT0.out]; exact ofL_ok _ _
    have HOF : Hid ((if isH hook = true then (ofL hook k.td, (0 : Int)) else (Ta.nil, 2)) = (T0, 0)) := by show _ = _; rw [if_pos hhH.out, HT0.out]
    obtain ⟨tb, ctb, hof⟩ := HLX.out.of HOF
    have HC0 := keepG hof
    obtain ⟨k1, HQ1, hm1, hk1, hq1, he1, ht1⟩ := took HI.out.2 (h := hook) (n := (j : Int) + 1) (e := (ea, eb)) ⟨hh2, hh3⟩
    have HQ1 := keepG HQ1
    obtain ⟨P, E, HJ⟩ : ∃ P E, Hid (judgeR ms xs = (P, E)) := ⟨_, _, rfl⟩
    have hEE : (E != E) = false := by simp
    have K1 : Hid True := trivial
    have K2 : Hid True := trivial
    obtain ⟨tr, tm, ts, tc, tu⟩ := T0
    clear hof
    by_cases hE : E = 0
    ·subst hE
     obtain ⟨K, HK⟩ : ∃ K, Hid (inqR ms xs = .ok K) := by
      cases hi : inqR ms xs with
      | ok K => exact ⟨K, rfl⟩
      | error e =>
       obtain ⟨P', E'⟩ := e
       have hE : E' ≠ 0 := inq_errorE hi (fun e h => (run_errorE (p := e.1) (E := e.2) h).2)
       have hj := HJ.out
       unfold judgeR at hj
       rw [hi] at hj
       exact absurd (Prod.mk.inj hj).2 hE
     obtain ⟨hmj, ⟨known, hKn, -⟩, hj0⟩ := judge_known HK.out
     have hx0 := hKn.T.pos
     have hx64 := hKn.T.top
     have hml := maps_len hmj
     obtain ⟨cb, co, ccap, ev, hcl⟩ := code_shape (HSM.out w (Below.refl _ _)).code hx0
     injection ev with ev1 ev2 ev3
     subst ev1 ev3
     clear ev2
     have HCD : Hid (∀ wx : World, Below w.heap.size w wx -> ∀ p, p < xs.length -> At wx cb (co + p * 5) (nth xs p)) := fun wx hb p hp => (codeL (HSM.out wx hb).code hp).1
     have hccap : xs.length <= xc /\ xc <= 9223372036854775807 := (codeL (HSM.out w (Below.refl _ _)).code hx0).2.2
     have hO1 : k1.Ok := HI.out.1.ok.take hEV HQ1.out
     obtain ⟨k2, HQ2⟩ : ∃ k2, Hid (k1.enter ((j : Int) + 5) j ms xs = (0, k2)) := ⟨_, by show _ = _; unfold Wk.enter; rw [if_neg (by omega), if_neg (by rw [HJ.out]; simp)]⟩
     obtain ⟨T, HT⟩ : ∃ T, Hid (traceE ms xs (ea, eb) 257 startE (rsX rs 256) = T) := ⟨_, rfl⟩
     obtain ⟨q, HQW⟩ : ∃ q : Rq, Hid (q = ⟨hook, (j : Int) + 1, (ea, eb), (j : Int) + 5, j, ms, xs, rsX rs 256, T, k.td⟩) := ⟨_, rfl⟩
     have HWY : Hid (Wy q 0 0 Ac.nil k2) := by
      have h := Wy.start hO1 hm1 (by rw [HJ.out]) HK.out HQ2.out (rsX rs 256) T (by rw [he1]; exact HT.out.symm)
      rw [hk1, hq1, he1, ht1] at h
      rw [HQW.out]
      exact h
     obtain ⟨mk, HMK⟩ : ∃ mk, Hid (marksB xs = mk) := ⟨_, rfl⟩
     have HXF := keepG (And.intro hx0 (And.intro hx64 (And.intro hml hccap)))
     clear hmj hKn hj0 hm1 hk1 hq1 he1 ht1 hO1 hx0 hx64 hml hccap hcl hEE
     -- up to the marks
     go_wp2_with (first
      | (rw [HX.out, HN1.out])
      | (go_at_call 6; (have hq := HC0; clear hq); go_must (refine HC0.out.mono ?_); rintro e wo ⟨rfl, hbo⟩; go_must (have HLo := keepG (HLX.out.below hbo); have HZo := keepG (HZ0.out.below hbo); dsimp only [taV]; obtain ⟨Y, HY, HZY, HBY⟩ : ∃ Y, Hid (wo.alloc (.cells #[.int .u64 tr, .int .u64 tm, .int .u64 ts, .int .u64 tc, .int .u64 tu] 37) = Y) /\ Hid (Bz Y F wo.heap.size 37 (taC ⟨tr, tm, ts, tc, tu⟩)) /\ Hid (Below wo.heap.size wo Y) := ⟨_, rfl, Bz.made HLo.out.lies _ _, below_allocG _ _⟩; obtain ⟨n2, HN2⟩ : ∃ n2, Hid (wo.heap.size = n2) := ⟨_, rfl⟩; rw [HN2.out] at HZY; have HBN2 : Hid (w.heap.size <= n2) := (by have h1 := HLo.out.be.size; have h2 := HN2.out; show _ <= _; omega); have HNE : Hid (n1 ≠ n2) := (by have h1 := HZo.out.1.lt; have h2 := HN2.out; show _ ≠ _; omega); have HLY := keepG (HLo.out.below HBY.out); have HZ1 := keepG (HZo.out.below HBY.out); have q1 := HZ1.out.cell (j := 1) rfl; have q2 := HZ1.out.cell (j := 2) rfl; clear hbo HC0 ctb h0))
      | (rw [HY.out, HN2.out])
      | (go_at_call 7; go_must (refine (HLY.out.take hook ((j : Int) + 1) (ea, eb) hEV HQ1).mono ?_); rintro e w2 ⟨rfl, F2, hL2, hn2⟩; go_must (have HL2 := keepG hL2; have HE2 := keepG (HZ1.out.next hn2); have HA2 := keepG (HZY.out.next hn2); have q3 := HE2.out.cell (j := 3) rfl; have q4 := HE2.out.cell (j := 4) rfl; clear hL2 hn2 q1 q2))
      | (go_at_call 9; (have hq := K1; clear hq); go_must (refine (copied9_own _ _ ms xs w2 (HSM.out w2 HL2.out.be) hz1).mono ?_); rintro e w3 ⟨um, uc, rfl, hsd, -, -, hb3⟩; go_must (have HSD := keepG hsd; have HL3 := keepG (HL2.out.below hb3); have HE3 := keepG (HE2.out.below hb3); have HA3 := keepG (HA2.out.below hb3); obtain ⟨⟨na, nc, e1⟩, da, dd, e2⟩ := shapeM23r hsd; subst e1 e2; clear hsd hb3 K1 q3 q4))
      | (go_at_call 8; go_must (refine (ljudge_as HSD.out.maps HSD.out.code HJ).mono ?_); rintro e w4 ⟨rfl, hb4⟩; go_must (have HL4 := keepG (HL3.out.below hb4); have HE4 := keepG (HE3.out.below hb4); have HA4 := keepG (HA3.out.below hb4); have q3 := HE4.out.cell (j := 3) rfl; have q4 := HE4.out.cell (j := 4) rfl; clear hb4 HSD))
      | (go_at_call 9; (have hq := K2; clear hq); go_must (refine (copied9_own _ _ ms xs w4 (HSM.out w4 HL4.out.be) hz1).mono ?_); rintro e w5 ⟨um, uc, rfl, hsg, ho1, ho2, hb5⟩; go_must (have HSG := keepG hsg; have HL5 := keepG (HL4.out.below hb5); have HE5 := keepG (HE4.out.below hb5); have HA5 := keepG (HA4.out.below hb5); have HP1 := keepG (apt_own23r HL4.out.lies (Nat.le_refl _) ho1); have HP2 := keepG (apt_own23r HL4.out.lies (Nat.le_refl _) ho2); obtain ⟨⟨na2, nc2, e1⟩, da2, dd2, e2⟩ := shapeM23r hsg; subst e1 e2; clear hsg hb5 K2 q3 q4 ho1 ho2))
      | (go_at_call 10; go_must (refine (HL5.out.enter ((j : Int) + 5) j HSG.out (fun hne => HP1.out (List.length_pos_iff.2 hne)) (fun hne => HP2.out (List.length_pos_iff.2 hne)) HQ2).mono ?_); rintro e w6 ⟨rfl, F6, hL6, hn6⟩; go_must (have HL6 := keepG hL6; have HE6 := keepG (HE5.out.next hn6); have HA6 := keepG (HA5.out.next hn6); clear hL6 hn6)))
     have q4 := HE6.out.cell (j := 4) rfl
     go_loopw [13, 14] (fun th i wx => ∃ t : Nat, t <= xs.length /\ th = .bool (marksB (xs.take t)) /\ i = .int .i64 t /\ w6 = wx) (fun _ i _ => xs.length - (intOf i).toNat)
     case atStart => exact ⟨0, Nat.zero_le _, rfl, rfl, rfl⟩
     case round =>
      obtain ⟨t, ht, rfl, rfl, rfl⟩ := hrel
      by_cases htl : t < xs.length
      ·have htI : (t : Int) < xs.length := by omega
       have htd : decide ((t : Int) < xs.length) = true := by simpa using htI
       have hts : t <= 64 := by have h := HXF.out.2.1; omega
       have hme := marks_more xs htl
       obtain ⟨⟨op, d, a, bb, imm⟩, HIx⟩ : ∃ i, Hid (nth xs t = i) := ⟨_, rfl⟩
       rw [HIx.out] at hme
       simp only at hme
       have hat := HCD.out w6 HL6.out.be t htl
       rw [HIx.out] at hat
       obtain ⟨o0, o1, o2, o3, o4⟩ := hat
       simp only at o0 o1 o2 o3 o4
       obtain ⟨mt, HMT⟩ : ∃ mt, Hid (marksB (xs.take t) = mt) := ⟨_, rfl⟩
       rw [HMT.out] at hme ⊢
       have HME := keepG hme
       clear hme
       cases mt with
       | true =>
        go_wp2
        go_roundw
        case rel => exact ⟨t + 1, by omega, by rw [HME.out]; rfl, by go_num, by first | rfl | trivial⟩
        case measure => simp [intOf]; omega
       | false =>
        by_cases hop : op = 21
        ·subst hop
         by_cases him : imm = 5
         ·subst him
          go_wp2
          go_roundw
          case rel => exact ⟨t + 1, by omega, by rw [HME.out]; rfl, by go_num, by first | rfl | trivial⟩
          case measure => simp [intOf]; omega
         ·have himb : (imm == 5) = false := by simpa using him
          go_wp2
          go_roundw
          case rel => exact ⟨t + 1, by omega, by rw [HME.out, himb]; rfl, by go_num, by first | rfl | trivial⟩
          case measure => simp [intOf]; omega
        ·have hopb : (op == 21) = false := by simpa using hop
         go_wp2
         go_roundw
         case rel => exact ⟨t + 1, by omega, by rw [HME.out, hopb]; rfl, by go_num, by first | rfl | trivial⟩
         case measure => simp [intOf]; omega
      ·obtain rfl : xs.length = t := by omega
       have htd : decide ((xs.length : Int) < xs.length) = false := by simp
       rw [List.take_length, HMK.out]
       have HQC : Hid (∀ wx : World, Below w6.heap.size w6 wx -> wx.cell? ⟨n1, 1, none⟩ = some (.int .u64 ea) /\ wx.cell? ⟨n1, 2, none⟩ = some (.int .u64 eb) /\ wx.cell? ⟨n1, 3, none⟩ = some (.slice ma ms.length mc) /\ wx.cell? ⟨n1, 4, none⟩ = some (.slice (some ⟨cb, co, none⟩) xs.length xc) /\ wx.cell? ⟨n1, 5, none⟩ = some (.slice ra rs.length rc)) := fun wx hb => have g := HE6.out.below hb; ⟨g.cell rfl, g.cell rfl, g.cell rfl, g.cell rfl, g.cell rfl⟩
       have HB6 := keepG HL6.out.be
       go_wp2
       go_loopw [15, 16] (fun v0 n wx => ∃ (t : Nat) (ys : List Rs) (va : Value), va = v0 /\ n = .int .i64 t /\ t <= 256 /\ Hid (ys = rsX rs t /\ wx.ownsRow w6.heap.size 62 6 va ys.length (flatR ys) /\ Below w6.heap.size w6 wx)) (fun _ n _ => 300 - (intOf n).toNat)
       case atStart => exact ⟨0, [], _, rfl, rfl, Nat.zero_le _, rfl, World.ownsRow_nil _ _ _ _, Below.refl _ _⟩
       case round =>
        obtain ⟨t, ys, va, rfl, rfl, ht, HYS⟩ := hrel
        have hbr := HYS.out.2.2
        have hown := HYS.out.2.1
        have hzr' := hbr.size
        have hyl : ys.length <= 256 := by rw [HYS.out.1, rsX_len]; exact ht
        by_cases htl : t < 256
        ·have htI : (t : Int) < 256 := by omega
         have hw2 : IntKind.u64.wrap (t : Int) = t := by rw [IntKind.wrap_u64]; omega
         obtain ⟨X3, HX3, HrX, hbX, hzX⟩ : ∃ X3, Hid (wr.alloc (.cells #[.int .i64 0, .bool false, .int .u64 t, .bool false, .int .u64 0, .int .u64 0] 62) = X3) /\ Hid (Hp X3 wr.heap.size 62 [.int .i64 0, .bool false, .int .u64 t, .bool false, .int .u64 0, .int .u64 0]) /\ Below wr.heap.size wr X3 /\ X3.heap.size = wr.heap.size + 1 := ⟨_, rfl, Hp.new wr _ _, below_allocG _ _, by simp⟩
         obtain ⟨-, -, -, -, xq5⟩ := HQC.out X3 (hbr.trans (hbX.mono hzr'))
         have o0 := HrX.out.cell (j := 0) rfl
         have p0 := HrX.out.frozen 0
         have o1 := HrX.out.cell (j := 1) rfl
         have p1 := HrX.out.frozen 1
         have o2 := HrX.out.cell (j := 2) rfl
         have p2 := HrX.out.frozen 2
         have o3 := HrX.out.cell (j := 3) rfl
         have p3 := HrX.out.frozen 3
         have o4 := HrX.out.cell (j := 4) rfl
         have p4 := HrX.out.frozen 4
         have o5 := HrX.out.cell (j := 5) rfl
         have p5 := HrX.out.frozen 5
         have HZX := keepG hzX
         clear hzX
         by_cases hu : t < rs.length
         ·have huI : (t : Int) < rs.length := by omega
          obtain ⟨rb, ro, hrb, hrlt, hat⟩ : ∃ b off, ra = some ⟨b, off, none⟩ /\ b < w.heap.size /\ AtR w b (off + t * 6) (rs.getD t Rs.nil) := by
           obtain ⟨a1, c1, e, _, _, _, _, g⟩ := HRS.out w (Below.refl _ _)
           injection e with e1 e2 e3
           subst e1
           obtain ⟨b, off, rfl, hlt, hat⟩ := g (fun e => by rw [e] at hu; simp at hu)
           exact ⟨b, off, rfl, hlt, hat t hu⟩
          have hrc : rs.length <= rc /\ rc <= 9223372036854775807 := by
           obtain ⟨a1, c1, e, g1, g2, _⟩ := HRS.out w (Below.refl _ _)
           injection e with e1 e2 e3
           subst e3
           unfold maxLen at g2
           exact ⟨g1, by omega⟩
          subst hrb
          obtain ⟨⟨rE, rf, rv, ro', rk, ru⟩, HRr⟩ : ∃ r, Hid (rs.getD t Rs.nil = r) := ⟨_, rfl⟩
          rw [HRr.out] at hat
          obtain ⟨r0, r1, r2, r3, r4, r5⟩ := hat.below (HB6.out.trans ((hbr.trans (hbX.mono hzr')).mono HB6.out.size)) hrlt
          simp only at r0 r1 r2 r3 r4 r5
          obtain ⟨X2, HX2, HrX2, hgX2⟩ : ∃ X2, Hid ((((((X3.setCell ⟨wr.heap.size, 0, none⟩ (.int .i64 rE)).setCell ⟨wr.heap.size, 1, none⟩ (.bool rf)).setCell ⟨wr.heap.size, 2, none⟩ (.int .u64 rv)).setCell ⟨wr.heap.size, 3, none⟩ (.bool ro')).setCell ⟨wr.heap.size, 4, none⟩ (.int .u64 rk)).setCell ⟨wr.heap.size, 5, none⟩ (.int .u64 ru) = X2) /\ Hid (Hp X2 wr.heap.size 62 [.int .i64 rE, .bool rf, .int .u64 rv, .bool ro', .int .u64 rk, .int .u64 ru]) /\ X3.grownBy X2 (some wr.heap.size) :=
           ⟨_, rfl, by have := HrX.out.sets [.int .i64 rE, .bool rf, .int .u64 rv, .bool ro', .int .u64 rk, .int .u64 ru] 0; exact this, grown_sets wr.heap.size [.int .i64 rE, .bool rf, .int .u64 rv, .bool ro', .int .u64 rk, .int .u64 ru] X3 0⟩
          have hzX' : X2.heap.size = wr.heap.size + 1 := by have h1 := HX2.out; rw [<- h1]; simp [World.setCell, HZX.out]
          have hb2 : Below wr.heap.size wr X2 := hbX.trans (grown_to_below hgX2 (Nat.le_refl _) hbX.size)
          have hownX := own_below hown hb2 (Nat.le_refl _)
          have hBX5 : Below w6.heap.size w6 X2 := hbr.trans (hb2.mono hzr')
          have s0 := HrX2.out.cell (j := 0) rfl
          have s1 := HrX2.out.cell (j := 1) rfl
          have s2 := HrX2.out.cell (j := 2) rfl
          have s3 := HrX2.out.cell (j := 3) rfl
          have s4 := HrX2.out.cell (j := 4) rfl
          have s5 := HrX2.out.cell (j := 5) rfl
          have HZ2 := keepG hzX'
          have hB2 := hb2.size
          clear hat hzX'
          go_wp2_with (first
           | (at_builtin; (try rw [HX2.out]); go_must (refine wpList_append_own _ rfl _ _ 33 rfl w6.heap.size 62 i0 _ 6 48 Tryz.underlying33 hi hz0 hzz1 hz2 rfl (by decide) _ _ _ rfl (hownX.alloc _) ⟨_, 0, none⟩ 1 1 (rsC ⟨rE, rf, rv, ro', rk, ru⟩) rfl rfl (seven_new _ _ _ _ rfl) (six_one ⟨rE, rf, rv, ro', rk, ru⟩) (by unfold maxLen; omega) (by omega) (by simp; omega) ?_); intro v' w9 hown' hgrow _; have R := res_more (r := ⟨rE, rf, rv, ro', rk, ru⟩) hownX hBX5 (Nat.le_refl _) hown' hgrow; clear hown' hgrow)
           | rw [HX3.out]
           | rw [HX2.out])
          go_roundw
          case rel => exact ⟨t + 1, ys ++ [⟨rE, rf, rv, ro', rk, ru⟩], v', rfl, by go_num, by omega, by rw [rsX_more, <- HYS.out.1]; unfold rsAt; rw [if_pos hu, HRr.out], R.1, R.2⟩
          case measure => simp [intOf]; omega
         ·have huI : ¬ (t : Int) < rs.length := by omega
          have hownX := own_below hown hbX (Nat.le_refl _)
          have hB2 := hbX.size
          have hBX5 : Below w6.heap.size w6 X3 := hbr.trans (hbX.mono hzr')
          go_wp2_with (first
           | (at_builtin; (try rw [HX3.out]); go_must (refine wpList_append_own _ rfl _ _ 33 rfl w6.heap.size 62 i0 _ 6 48 Tryz.underlying33 hi hz0 hzz1 hz2 rfl (by decide) _ _ _ rfl (hownX.alloc _) ⟨_, 0, none⟩ 1 1 (rsC ⟨0, false, t, false, 0, 0⟩) rfl rfl (seven_new _ _ _ _ rfl) (six_one ⟨0, false, t, false, 0, 0⟩) (by unfold maxLen; omega) (by omega) (by simp; omega) ?_); intro v' w9 hown' hgrow _; have R := res_more (r := ⟨0, false, t, false, 0, 0⟩) hownX hBX5 (Nat.le_refl _) hown' hgrow; clear hown' hgrow)
           | rw [HX3.out])
          go_roundw
          case rel => exact ⟨t + 1, ys ++ [⟨0, false, t, false, 0, 0⟩], v', rfl, by go_num, by omega, by rw [rsX_more, <- HYS.out.1]; unfold rsAt; rw [if_neg hu], R.1, R.2⟩
          case measure => simp [intOf]; omega
        ·have htI : ¬ (t : Int) < 256 := by omega
         have htd : decide ((t : Int) < 256) = false := by simpa using htI
         have HYE : Hid (ys = rsX rs 256) := by show _ = _; rw [HYS.out.1, show t = 256 by omega]
         have hyw : ∀ r ∈ ys, r.wf := by
          rw [HYE.out]
          exact rsX_wf (by obtain ⟨_, _, _, _, _, _, g, _⟩ := HRS.out w (Below.refl _ _); exact g) (Nat.le_refl _)
         have HYs := keepG (own_seesR hown hyw)
         have HOY := keepG hown
         have HBR := keepG hbr
         obtain ⟨ya, yc, rfl⟩ : ∃ a c, va = .slice a ys.length c := by obtain ⟨a, c, e, _⟩ := HYs.out; exact ⟨a, c, e⟩
         have HTY : Hid (traceE ms xs (ea, eb) 257 startE ys = T) := by rw [HYE.out]; exact HT.out
         have HYW := keepG hyw
         have HYL : Hid (ys.length = 256) := by show _ = _; rw [HYE.out, rsX_len]
         clear hown hyw hyl HYS hbr
         go_wp2
         go_region_held3 (fun w' => w'.cell? ⟨n1, 1, none⟩ = some (.int .u64 ea) /\ w'.cell? ⟨n1, 2, none⟩ = some (.int .u64 eb) /\ w'.cell? ⟨n1, 3, none⟩ = some (.slice ma ms.length mc) /\ w'.cell? ⟨n1, 4, none⟩ = some (.slice (some ⟨cb, co, none⟩) xs.length xc) /\ w'.cell? ⟨n1, 5, none⟩ = some (.slice ra rs.length rc))
          (first | with_reducible exact hS7 | with_reducible exact hS8 | exact HQC.out wr HBR.out)
          (first
           | (go_at_call 9; go_must (refine (copied9_own _ _ ms xs wr.drew (HSM.out wr.drew (below_drG (HB6.out.trans (HBR.out.mono HB6.out.size)))) hz1).mono ?_); rintro e w7 ⟨um7, uc7, rfl, hs7, ho7, hoc7, hb7'⟩; go_must (have hb7 : Below wr.heap.size wr w7 := below_undrew hb7'; have HB7 : Hid (Below w6.heap.size w6 w7) := HBR.out.trans (hb7.mono HBR.out.size); have HS7 := keepG hs7; have hS7 := HQC.out w7 HB7.out; have HY7 := keepG (HYs.out.below hb7 (Nat.le_refl _)); have HO7 := keepG (own_below HOY.out hb7 (Nat.le_refl _)); clear hs7 hb7' ho7 hoc7))
           | (go_at_call 13; go_must (refine (mtrace_sees (ea, eb) hEV w7 HS7.out HY7.out HK.out HTY).mono ?_); rintro e w8 ⟨vw, rfl, how, hb8⟩; go_must (obtain ⟨ga, gc, rfl⟩ := own_shapeE how; have hB8 : Below w6.heap.size w6 w8 := HB7.out.trans (hb8.mono HB7.out.size); have hS8 := HQC.out w8 hB8; have HB8 := keepG hB8; have HOW := keepG (own_low how HB7.out.size); have HO8 := keepG (own_below HO7.out hb8 (Nat.le_refl _)); clear how hb8 hB8)))
         have HL8 := keepG (HL6.out.below HB8.out)
         have hyl0 : 0 < ys.length := by have h := HYL.out; omega
         have hT0 : 0 < T.length := by have h := trace_pos ms xs (ea, eb) 256 startE ys; rw [HTY.out] at h; exact h
         obtain ⟨ry, rfl, hyc⟩ := own_at23 HO8.out hyl0
         obtain ⟨gw, rfl, hgc⟩ := own_at23 HOW.out hT0
         obtain ⟨L, HLL, HLB, HBL⟩ : ∃ L, Hid (w8.alloc (.cells #[.int .i64 0, .int .i64 0, .int .i64 0, .int .i64 0, .int .u64 0, .int .u64 0, .int .u64 0] 71) = L) /\ Hid (Bz L F6 w8.heap.size 71 (acC Ac.nil)) /\ Hid (Below w8.heap.size w8 L) := ⟨_, rfl, Bz.made HL8.out.lies _ _, below_allocG _ _⟩
         obtain ⟨nl, HNL⟩ : ∃ nl, Hid (w8.heap.size = nl) := ⟨_, rfl⟩
         rw [HNL.out] at HLB
         obtain ⟨CE, HCE⟩ : ∃ CE : List Value, Hid (CE = [.int .i64 hk, .int .u64 ea, .int .u64 eb, .slice ma ms.length mc, .slice (some ⟨cb, co, none⟩) xs.length xc, .slice ra rs.length rc]) := ⟨_, rfl⟩
         have HRB : Hid (Rb w6.heap.size n1 n2 nl CE (taC ⟨tr, tm, ts, tc, tu⟩) (.slice (some ⟨ry, 0, none⟩) ys.length yc) (.slice (some ⟨gw, 0, none⟩) T.length gc) ys T L F6 Ac.nil) := by
          have h1 := (HE6.out.below HB8.out).below HBL.out
          have h2 := (HA6.out.below HB8.out).below HBL.out
          have h3 := (HE6.out.below HB8.out).1.lt
          have h4 := (HA6.out.below HB8.out).1.lt
          have h5 := HNL.out
          refine ⟨by rw [HCE.out]; exact h1, h2, HLB.out, own_below HO8.out HBL.out (by have := HB8.out.size; omega), fun j e1 e2 => ?_, own_below HOW.out HBL.out (by have := HB8.out.size; omega), fun j e1 e2 => ?_, by omega, by omega, fun j e => ?_, fun j e => ?_⟩
          ·have g1 := HL6.out.lies j e1
           have g2 := (HO8.out.lt j e2).1
           omega
          ·have g1 := HL6.out.lies j e1
           have g2 := (HOW.out.lt j e2).1
           omega
          ·have g2 := (HO8.out.lt j e).2
           omega
          ·have g2 := (HOW.out.lt j e).2
           omega
         have HLz := keepG (HL8.out.below HBL.out)
         have hnl : w.heap.size <= nl := by have h1 := HL8.out.be.size; have h2 := HNL.out; omega
         obtain ⟨L1, HL1⟩ : ∃ L1, Hid (((((((L.setCell ⟨nl, 0, none⟩ (.int .i64 0)).setCell ⟨nl, 1, none⟩ (.int .i64 0)).setCell ⟨nl, 2, none⟩ (.int .i64 0)).setCell ⟨nl, 3, none⟩ (.int .i64 0)).setCell ⟨nl, 4, none⟩ (.int .u64 0)).setCell ⟨nl, 5, none⟩ (.int .u64 0)).setCell ⟨nl, 6, none⟩ (.int .u64 0) = L1) := ⟨_, rfl⟩
         have HRB1 : Hid (Rb w6.heap.size n1 n2 nl CE (taC ⟨tr, tm, ts, tc, tu⟩) (.slice (some ⟨ry, 0, none⟩) ys.length yc) (.slice (some ⟨gw, 0, none⟩) T.length gc) ys T L1 F6 Ac.nil) := by rw [<- HL1.out]; exact HRB.out.put Ac.nil
         have HLz1 : Hid (Lz w L1 b F6 k2) := by rw [<- HL1.out]; exact HLz.out.keeps (Chg.sets L nl 0 (acC Ac.nil)) (fun j e1 e2 => HLB.out.2 (by rw [<- e1]; exact e2)) (fun j e => by have : j = nl := e; omega)
         have HNLW := keepG hnl
         have l0 := HLB.out.cell (j := 0) rfl
         have l1 := HLB.out.cell (j := 1) rfl
         have l2 := HLB.out.cell (j := 2) rfl
         have l3 := HLB.out.cell (j := 3) rfl
         have l4 := HLB.out.cell (j := 4) rfl
         have l5 := HLB.out.cell (j := 5) rfl
         have l6 := HLB.out.cell (j := 6) rfl
         have f0 := HLB.out.1.frozen 0
         have f1 := HLB.out.1.frozen 1
         have f2 := HLB.out.1.frozen 2
         have f3 := HLB.out.1.frozen 3
         have f4 := HLB.out.1.frozen 4
         have f5 := HLB.out.1.frozen 5
         have f6 := HLB.out.1.frozen 6
         have HTC := keepG (And.intro hT0 (And.intro hyc hgc))
         have HQV : Hid (q.ve = (j : Int) + 5 /\ q.pg = (j : Int) /\ q.want = T /\ q.rs = ys /\ q.xs = xs /\ q.hk = hook /\ q.td = k.td) := by
          show _ /\ _
          rw [HQW.out]
          exact ⟨rfl, rfl, rfl, HYE.out.symm, rfl, rfl, rfl⟩
         clear hT0 hyl0 hyc hgc hnl
         go_wp2_with (first | (rw [HLL.out, HNL.out]) | (rw [HL1.out]))
         clear l0 l1 l2 l3 l4 l5 l6 f0 f1 f2 f3 f4 f5 f6
         go_loopw [20, 21] (fun cv nv wx => ∃ (n c : Nat) (last : Ac) (F : Ft) (kk : Wk), cv = .int .i64 c /\ nv = .int .i64 n /\ n <= 256 /\ Hid (Lz w wx b F kk /\ Rb w6.heap.size n1 n2 nl CE (taC ⟨tr, tm, ts, tc, tu⟩) (.slice (some ⟨ry, 0, none⟩) ys.length yc) (.slice (some ⟨gw, 0, none⟩) T.length gc) ys T wx F last /\ Wy q n c last kk)) (fun _ nv _ => 300 - (intOf nv).toNat)
         case atStart => exact ⟨0, 0, Ac.nil, F6, k2, rfl, rfl, by omega, HLz1.out, HRB1.out, HWY.out⟩
         case round =>
          obtain ⟨n, c, last, F7, kk, rfl, rfl, hn, HS⟩ := hrel
          have HLk := keepG HS.out.1
          have HRk := keepG HS.out.2.1
          have HWk := keepG HS.out.2.2
          clear HS
          rcases Wy.mode HWk.out with h2 | h0
          ·obtain ⟨a, k4, hst⟩ := HWk.out.step h2
           have hwt : mk = false -> n < T.length /\ T.getD n Ac.nil = a := fun e => by
            have h := hst.wt (by rw [HQV.out.2.2.2.2.1]; exact marks_no (HMK.out.trans e))
            rw [HQV.out.2.2.1] at h
            exact h
           have hqv : Hid (q.ve = (j : Int) + 5 /\ q.pg = (j : Int) /\ q.want = T /\ q.rs = ys /\ True) := ⟨HQV.out.1, HQV.out.2.1, HQV.out.2.2.1, HQV.out.2.2.2.1, trivial⟩
           by_cases a2 : a.k = 2
           ·cases mk
            ·have h := runC0 HLk HRk h2 hqv HYL HYW HNLW hjs hn hst a2 (hwt rfl)
             unfold RunGoal at h
             exact run_up (by apply h)
            ·have h := runC1 HLk HRk h2 hqv HYL HYW HNLW hjs hn hst a2
             unfold RunGoal at h
             exact run_up (by apply h)
           ·cases mk
            ·have h := runN0 HLk HRk h2 hqv HYL HYW HNLW hjs hn hst a2 (hwt rfl)
             unfold RunGoal at h
             exact run_up (by apply h)
            ·have h := runN1 HLk HRk h2 hqv HYL HYW HNLW hjs hn hst a2
             unfold RunGoal at h
             exact run_up (by apply h)
          ·as_aux_lemma =>
            obtain ⟨h4, -, hO, hof, hsk, han, hcn⟩ := Wy.ended HWk.out h0
            have HMD0 : Hid (((kk.md : Nat) : Int) = 0) := by show _ = _; rw [h0]; rfl
            obtain ⟨lk, lpc, lm, lo, lq, lv, lu⟩ := last
            obtain rfl : lk = 4 := h4
            obtain ⟨R1, HR1⟩ : ∃ x, Hid (ad tr 1 = x) := ⟨_, rfl⟩
            obtain ⟨S1, HS1⟩ : ∃ x, Hid (ad ts n = x) := ⟨_, rfl⟩
            obtain ⟨C1, HC1⟩ : ∃ x, Hid (ad tc c = x) := ⟨_, rfl⟩
            obtain ⟨U1, HU1⟩ : ∃ x, Hid (ad tu lu = x) := ⟨_, rfl⟩
            have HOFE : Hid ((if isH hook = true then (ofL hook kk.td, (0 : Int)) else (Ta.nil, 2)) = (⟨R1, tm, S1, C1, U1⟩, 0)) := by
             show _ = _
             rw [if_pos hhH.out, <- HQV.out.2.2.2.2.2.1, hof, HQV.out.2.2.2.2.2.1, HQV.out.2.2.2.2.2.2, HT0.out, ta_ran hT0, <- HR1.out, <- HS1.out, <- HC1.out, <- HU1.out]
            have hnI : (n : Int) <= 256 := by omega
            have hcI : (c : Int) <= 300 := by omega
            have hwn : IntKind.u64.wrap (n : Int) = n := by rw [IntKind.wrap_u64]; omega
            have hwc : IntKind.u64.wrap (c : Int) = c := by rw [IntKind.wrap_u64]; omega
            have hwR : IntKind.u64.wrap (tr + 1) = R1 := by rw [ad_wrap]; exact HR1.out
            have hwS : IntKind.u64.wrap (ts + (n : Int)) = S1 := by rw [ad_wrap]; exact HS1.out
            have hwC : IntKind.u64.wrap (tc + (c : Int)) = C1 := by rw [ad_wrap]; exact HC1.out
            have hwU : IntKind.u64.wrap (tu + lu) = U1 := by rw [ad_wrap]; exact HU1.out
            have HSK := keepG hsk
            have HAN := keepG han
            have hr1 : (R1 != R1) = false := by simp
            have hr2 : (tm != tm) = false := by simp
            have hr3 : (S1 != S1) = false := by simp
            have hr4 : (C1 != C1) = false := by simp
            have hr5 : (U1 != U1) = false := by simp
            have K5 : Hid True := trivial
            have HNEB : Hid (n2 ≠ nl) := HRk.out.ne.2.1
            have hne1 : ¬ n2 = nl := HNEB.out
            have hne2 : ¬ nl = n2 := fun e => HNEB.out e.symm
            have HH0 := keepG h0
            have HHO := keepG hO
            clear h0 hO hof hsk han hcn
            go_wp2_with (first
             | (go_at_call 11; (have hq := K5; clear hq); go_must (refine HLk.out.mode.mono ?_); rintro e wa ⟨rfl, hba⟩; go_must (rw [HMD0.out]; have HLa := keepG (HLk.out.below hba); have HRa := keepG (HRk.out.below hba); obtain ⟨tb6, ct6, hof6⟩ := HLa.out.of HOFE; have HC6 := keepG hof6; clear hba K5 hof6))
             | (go_at_call 6; go_must (refine HC6.out.mono ?_); rintro e wb ⟨rfl, hbb⟩; go_must (have HLb := keepG (HLa.out.below hbb); have HRb' := keepG (HRa.out.below hbb); dsimp only [taV]; obtain ⟨Z, HZ, HNZ, HBZ⟩ : ∃ Z, Hid (wb.alloc (.cells #[.int .u64 R1, .int .u64 tm, .int .u64 S1, .int .u64 C1, .int .u64 U1] 37) = Z) /\ Hid (Bz Z F7 wb.heap.size 37 (taC ⟨R1, tm, S1, C1, U1⟩)) /\ Hid (Below wb.heap.size wb Z) := ⟨_, rfl, Bz.made HLb.out.lies _ _, below_allocG _ _⟩; obtain ⟨n3, HN3⟩ : ∃ n3, Hid (wb.heap.size = n3) := ⟨_, rfl⟩; rw [HN3.out] at HNZ; have HNE3 : Hid (n3 ≠ n2) := (by have h1 := HRb'.out.ta.1.lt; have h2 := HN3.out; show _ ≠ _; omega); have HLZ := keepG (HLb.out.below HBZ.out); have HRZ := keepG (HRb'.out.below HBZ.out); have a0 := HRZ.out.ta.cell (j := 0) rfl; have a1 := HRZ.out.ta.cell (j := 1) rfl; have a2 := HRZ.out.ta.cell (j := 2) rfl; have a3 := HRZ.out.ta.cell (j := 3) rfl; have a4 := HRZ.out.ta.cell (j := 4) rfl; have b0 := HRZ.out.ta.1.frozen 0; have b2 := HRZ.out.ta.1.frozen 2; have b3 := HRZ.out.ta.1.frozen 3; have b4 := HRZ.out.ta.1.frozen 4; have l0 := HRZ.out.la.cell (j := 0) rfl; have l6 := HRZ.out.la.cell (j := 6) rfl; obtain ⟨X9, HX9, HC9, HP9⟩ : ∃ X9, Hid ((((Z.setCell ⟨n2, 0, none⟩ (.int .u64 R1)).setCell ⟨n2, 2, none⟩ (.int .u64 S1)).setCell ⟨n2, 3, none⟩ (.int .u64 C1)).setCell ⟨n2, 4, none⟩ (.int .u64 U1) = X9) /\ Hid (Chg Z X9 (fun k => k = n2)) /\ Hid (Hp X9 n2 37 (taC ⟨R1, tm, S1, C1, U1⟩)) := ⟨_, rfl, (((Chg.set _ _ _ _).app (Chg.set _ _ _ _)).app (Chg.set _ _ _ _)).app (Chg.set _ _ _ _), (((HRZ.out.ta.1.set 0 (.int .u64 R1)).set 2 (.int .u64 S1)).set 3 (.int .u64 C1)).set 4 (.int .u64 U1)⟩; have HLX9 : Hid (Lz w X9 b F7 kk) := HLZ.out.keeps HC9.out (fun j e1 e2 => HRZ.out.ta.2 (by rw [<- e1]; exact e2)) (fun j e => (by have h1 := HBN2.out; have h2 : j = n2 := e; omega)); have HNX9 := keepG (HNZ.out.chg HC9.out HNE3.out); have HLAX := keepG (HRZ.out.la.chg HC9.out (fun e => HNEB.out e.symm)); clear hbb ct6))
             | (rw [HZ.out, HN3.out])
             | (rw [HX9.out]; have a0 := HP9.out.cell (j := 0) rfl; have a1 := HP9.out.cell (j := 1) rfl; have a2 := HP9.out.cell (j := 2) rfl; have a3 := HP9.out.cell (j := 3) rfl; have a4 := HP9.out.cell (j := 4) rfl; have l0 := HLAX.out.cell (j := 0) rfl; have d0 := HNX9.out.cell (j := 0) rfl; have d1 := HNX9.out.cell (j := 1) rfl; have d2 := HNX9.out.cell (j := 2) rfl; have d3 := HNX9.out.cell (j := 3) rfl; have d4 := HNX9.out.cell (j := 4) rfl)
             | (go_at_call 16; go_must (refine (HLX9.out.answer ⟨0, false, 0, false, 0, 0⟩ (by unfold Rs.wf; decide) (by decide) HAN).mono ?_); rintro e wc ⟨rfl, Fc, hLc, hnc⟩; go_must (have HLc := keepG hLc; clear hLc hnc))
             | (go_at_call 12; go_must (refine (HLc.out.skip HSK).mono ?_); rintro e wd ⟨rfl, Fd, hLd, hnd⟩; go_must (have HLd := keepG hLd; clear hLd hnd)))
            go_roundw
            case rel => exact ⟨j + 1, Fd, kk, by omega, by omega, by go_num, HLd.out, HH0.out⟩
            case measure => simp [intOf]; omega
    ·have HQ2 : Hid (k1.enter ((j : Int) + 5) j ms xs = (E, k1)) := by show _ = _; unfold Wk.enter; rw [if_neg (by omega), if_pos (by rw [HJ.out]; exact hE), HJ.out]
     have HOF2 : Hid ((if isH hook = true then (ofL hook k1.td, (0 : Int)) else (Ta.nil, 2)) = (⟨tr, tm, ts, tc, tu⟩, 0)) := by show _ = _; rw [ht1]; exact HOF.out
     obtain ⟨k7, HQ7, hm7, ht7⟩ := skipped hm1
     have HQ7 := keepG HQ7
     have HM1 : Hid (((k1.md : Nat) : Int) = 1) := by show _ = _; rw [hm1]; rfl
     obtain ⟨M1, HM⟩ : ∃ M1, Hid (ad tm 1 = M1) := ⟨_, rfl⟩
     have hw1 : IntKind.u64.wrap (tm + 1) = M1 := by rw [ad_wrap]; exact HM.out
     have HOF7 : Hid ((if isH hook = true then (ofL hook k7.td, (0 : Int)) else (Ta.nil, 2)) = (⟨tr, M1, ts, tc, tu⟩, 0)) := by
      show _ = _
      rw [if_pos hhH.out, <- hk1, ht7, hk1, ht1, HT0.out, ta_ad hT0, <- HM.out]
     have hr1 : (tr != tr) = false := by simp
     have hr2 : (tm != tm) = false := by simp
     have hr3 : (ts != ts) = false := by simp
     have hr4 : (tc != tc) = false := by simp
     have hr5 : (tu != tu) = false := by simp
     have hr6 : (M1 != M1) = false := by simp
     have hEb : (E == 0) = false := by simpa using hE
     clear HT0 hT0 ht1 hk1 hq1 he1 hm1 ht7
     as_aux_lemma =>
      go_wp2_with (first
       | (rw [HX.out, HN1.out])
       | (go_at_call 6; (have hq := HC0; clear hq); go_must (refine HC0.out.mono ?_); rintro e wo ⟨rfl, hbo⟩; go_must (have HLo := keepG (HLX.out.below hbo); have HZo := keepG (HZ0.out.below hbo); dsimp only [taV]; obtain ⟨Y, HY, HZY, HBY⟩ : ∃ Y, Hid (wo.alloc (.cells #[.int .u64 tr, .int .u64 tm, .int .u64 ts, .int .u64 tc, .int .u64 tu] 37) = Y) /\ Hid (Bz Y F wo.heap.size 37 (taC ⟨tr, tm, ts, tc, tu⟩)) /\ Hid (Below wo.heap.size wo Y) := ⟨_, rfl, Bz.made HLo.out.lies _ _, below_allocG _ _⟩; obtain ⟨n2, HN2⟩ : ∃ n2, Hid (wo.heap.size = n2) := ⟨_, rfl⟩; rw [HN2.out] at HZY; have HBN2 : Hid (w.heap.size <= n2) := (by have h1 := HLo.out.be.size; have h2 := HN2.out; show _ <= _; omega); have HNE : Hid (n1 ≠ n2) := (by have h1 := HZo.out.1.lt; have h2 := HN2.out; show _ ≠ _; omega); have HLY := keepG (HLo.out.below HBY.out); have HZ1 := keepG (HZo.out.below HBY.out); have q1 := HZ1.out.cell (j := 1) rfl; have q2 := HZ1.out.cell (j := 2) rfl; clear hbo HC0 ctb h0))
       | (rw [HY.out, HN2.out])
       | (go_at_call 7; go_must (refine (HLY.out.take hook ((j : Int) + 1) (ea, eb) hEV HQ1).mono ?_); rintro e w2 ⟨rfl, F2, hL2, hn2⟩; go_must (have HL2 := keepG hL2; have HE2 := keepG (HZ1.out.next hn2); have HA2 := keepG (HZY.out.next hn2); have q3 := HE2.out.cell (j := 3) rfl; have q4 := HE2.out.cell (j := 4) rfl; clear hL2 hn2 q1 q2))
       | (go_at_call 9; (have hq := K1; clear hq); go_must (refine (copied9_own _ _ ms xs w2 (HSM.out w2 HL2.out.be) hz1).mono ?_); rintro e w3 ⟨um, uc, rfl, hsd, -, -, hb3⟩; go_must (have HSD := keepG hsd; have HL3 := keepG (HL2.out.below hb3); have HE3 := keepG (HE2.out.below hb3); have HA3 := keepG (HA2.out.below hb3); obtain ⟨⟨na, nc, e1⟩, da, dd, e2⟩ := shapeM23r hsd; subst e1 e2; clear hsd hb3 K1 q3 q4))
       | (go_at_call 8; go_must (refine (ljudge_as HSD.out.maps HSD.out.code HJ).mono ?_); rintro e w4 ⟨rfl, hb4⟩; go_must (have HL4 := keepG (HL3.out.below hb4); have HE4 := keepG (HE3.out.below hb4); have HA4 := keepG (HA3.out.below hb4); have q3 := HE4.out.cell (j := 3) rfl; have q4 := HE4.out.cell (j := 4) rfl; clear hb4 HSD))
       | (go_at_call 9; (have hq := K2; clear hq); go_must (refine (copied9_own _ _ ms xs w4 (HSM.out w4 HL4.out.be) hz1).mono ?_); rintro e w5 ⟨um, uc, rfl, hsg, ho1, ho2, hb5⟩; go_must (have HSG := keepG hsg; have HL5 := keepG (HL4.out.below hb5); have HE5 := keepG (HE4.out.below hb5); have HA5 := keepG (HA4.out.below hb5); have HP1 := keepG (apt_own23r HL4.out.lies (Nat.le_refl _) ho1); have HP2 := keepG (apt_own23r HL4.out.lies (Nat.le_refl _) ho2); obtain ⟨⟨na2, nc2, e1⟩, da2, dd2, e2⟩ := shapeM23r hsg; subst e1 e2; clear hsg hb5 K2 q3 q4 ho1 ho2))
       | (go_at_call 10; go_must (refine (HL5.out.enter ((j : Int) + 5) j HSG.out (fun hne => HP1.out (List.length_pos_iff.2 hne)) (fun hne => HP2.out (List.length_pos_iff.2 hne)) HQ2).mono ?_); rintro e w6 ⟨rfl, F6, hL6, hn6⟩; go_must (have HL6 := keepG hL6; have HE6 := keepG (HE5.out.next hn6); have HA6 := keepG (HA5.out.next hn6); clear hL6 hn6; obtain ⟨tb6, ct6, hof6⟩ := HL6.out.of HOF2; have HC6 := keepG hof6; clear hof6))
       | (go_at_call 6; (have hq := HC6; clear hq); go_must (refine HC6.out.mono ?_); rintro e w7 ⟨rfl, hb7⟩; go_must (have HL7 := keepG (HL6.out.below hb7); have HA7 := keepG (HA6.out.below hb7); dsimp only [taV]; obtain ⟨Z, HZ, HNZ, HBZ⟩ : ∃ Z, Hid (w7.alloc (.cells #[.int .u64 tr, .int .u64 tm, .int .u64 ts, .int .u64 tc, .int .u64 tu] 37) = Z) /\ Hid (Bz Z F6 w7.heap.size 37 (taC ⟨tr, tm, ts, tc, tu⟩)) /\ Hid (Below w7.heap.size w7 Z) := ⟨_, rfl, Bz.made HL7.out.lies _ _, below_allocG _ _⟩; obtain ⟨n3, HN3⟩ : ∃ n3, Hid (w7.heap.size = n3) := ⟨_, rfl⟩; rw [HN3.out] at HNZ; have HBN3 : Hid (w.heap.size <= n3) := (by have h1 := HL7.out.be.size; have h2 := HN3.out; show _ <= _; omega); have HNE3 : Hid (n2 ≠ n3) := (by have h1 := HA7.out.1.lt; have h2 := HN3.out; show _ ≠ _; omega); have HLZ := keepG (HL7.out.below HBZ.out); have HAZ := keepG (HA7.out.below HBZ.out); have a0 := HAZ.out.cell (j := 0) rfl; have a1 := HAZ.out.cell (j := 1) rfl; have a2 := HAZ.out.cell (j := 2) rfl; have a3 := HAZ.out.cell (j := 3) rfl; have a4 := HAZ.out.cell (j := 4) rfl; have d0 := HNZ.out.cell (j := 0) rfl; have d1 := HNZ.out.cell (j := 1) rfl; have d2 := HNZ.out.cell (j := 2) rfl; have d3 := HNZ.out.cell (j := 3) rfl; have d4 := HNZ.out.cell (j := 4) rfl; clear hb7 HC6 ct6))
       | (rw [HZ.out, HN3.out])
       | (go_at_call 11; go_must (refine HLZ.out.mode.mono ?_); rintro e w8 ⟨rfl, hb8⟩; go_must (rw [HM1.out]; have HL8 := keepG (HLZ.out.below hb8); have HA8 := keepG (HAZ.out.below hb8); have HN8 := keepG (HNZ.out.below hb8); clear hb8 a0 a1 a2 a3 a4 d0 d1 d2 d3 d4))
       | (go_at_call 12; go_must (refine (HL8.out.skip HQ7).mono ?_); rintro e w9 ⟨rfl, F9, hL9, hn9⟩; go_must (have HL9 := keepG hL9; have HA9 := keepG (HA8.out.next hn9); have HN9 := keepG (HN8.out.next hn9); obtain ⟨tb9, ct9, hof9⟩ := hL9.of HOF7; have HC9 := keepG hof9; clear hof9 hL9 hn9))
       | (go_at_call 6; (have hq := HC9; clear hq); go_must (refine HC9.out.mono ?_); rintro e wa ⟨rfl, hba⟩; go_must (have HLa := keepG (HL9.out.below hba); have HAa := keepG (HA9.out.below hba); have HNa := keepG (HN9.out.below hba); dsimp only [taV]; have f0 := HNa.out.1.frozen 0; have f1 := HNa.out.1.frozen 1; have f2 := HNa.out.1.frozen 2; have f3 := HNa.out.1.frozen 3; have f4 := HNa.out.1.frozen 4; have d0 := HNa.out.cell (j := 0) rfl; have d1 := HNa.out.cell (j := 1) rfl; have d2 := HNa.out.cell (j := 2) rfl; have d3 := HNa.out.cell (j := 3) rfl; have d4 := HNa.out.cell (j := 4) rfl; obtain ⟨Xb, HXb⟩ : ∃ Xb, Hid (((((wa.setCell ⟨n3, 0, none⟩ (.int .u64 tr)).setCell ⟨n3, 1, none⟩ (.int .u64 M1)).setCell ⟨n3, 2, none⟩ (.int .u64 ts)).setCell ⟨n3, 3, none⟩ (.int .u64 tc)).setCell ⟨n3, 4, none⟩ (.int .u64 tu) = Xb) := ⟨_, rfl⟩; have HcX : Hid (Chg wa Xb (fun k => k = n3)) := (by show Chg _ _ _; rw [<- HXb.out]; exact Chg.sets wa n3 0 (taC ⟨tr, M1, ts, tc, tu⟩)); have HLb : Hid (Lz w Xb b F9 k7) := HLa.out.keeps HcX.out (fun j e1 e2 => HNa.out.2 (by rw [<- e1]; exact e2)) (fun j e => (by have h1 := HBN3.out; have h2 : j = n3 := e; omega)); have HAb := keepG (HAa.out.chg HcX.out HNE3.out); have HNb : Hid (Bz Xb F9 n3 37 (taC ⟨tr, M1, ts, tc, tu⟩)) := ⟨(by rw [<- HXb.out]; exact HNa.out.1.sets (taC ⟨tr, M1, ts, tc, tu⟩) 0), HNa.out.2⟩; have a1 := HAb.out.cell (j := 1) rfl; have g1 := HAb.out.1.frozen 1; obtain ⟨Xc, HXc, HCc⟩ : ∃ Xc, Hid (Xb.setCell ⟨n2, 1, none⟩ (.int .u64 M1) = Xc) /\ Hid (Chg Xb Xc (fun k => k = n2)) := ⟨_, rfl, Chg.set _ _ _ _⟩; have HLc : Hid (Lz w Xc b F9 k7) := HLb.out.keeps HCc.out (fun j e1 e2 => HAb.out.2 (by rw [<- e1]; exact e2)) (fun j e => (by have h1 := HBN2.out; have h2 : j = n2 := e; omega)); have HNc := keepG (HNb.out.chg HCc.out (fun e => HNE3.out e.symm)); have HAc : Hid (Hp Xc n2 37 (taC ⟨tr, M1, ts, tc, tu⟩)) := (by show Hp _ _ _ _; rw [<- HXc.out]; exact HAb.out.1.set 1 (.int .u64 M1)); clear hba HC9 ct9))
       | (rw [HXb.out])
       | (rw [HXc.out]; have a0 := HAc.out.cell (j := 0) rfl; have a1 := HAc.out.cell (j := 1) rfl; have a2 := HAc.out.cell (j := 2) rfl; have a3 := HAc.out.cell (j := 3) rfl; have a4 := HAc.out.cell (j := 4) rfl; have d0 := HNc.out.cell (j := 0) rfl; have d1 := HNc.out.cell (j := 1) rfl; have d2 := HNc.out.cell (j := 2) rfl; have d3 := HNc.out.cell (j := 3) rfl; have d4 := HNc.out.cell (j := 4) rfl))
      go_roundw
      case rel => exact ⟨j + 1, F9, k7, by omega, by omega, by go_num, HLc.out, hm7⟩
      case measure => simp [intOf]; omega
   ·have h2I : ¬ (j : Int) < 40 := by omega
    have h2d : decide ((j : Int) < 40) = false := by simpa using h2I
    have HLw := keepG HI.out.1.be
    go_wp2
    go_ret
    exact ⟨rfl, HLw.out⟩
  ·have hltI : ¬ (j : Int) < es.length := by omega
   have hltd : decide ((j : Int) < es.length) = false := by simpa using hltI
   have HLw := keepG HI.out.1.be
   go_wp2
   go_ret
   exact ⟨rfl, HLw.out⟩
end Go.Proofs.YtkondcjmhlppiaaGreat
