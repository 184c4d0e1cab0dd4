
/-
 What the project's Encode does: the bytes of a module in new memory, or ErrArg. Condition: the module's slices read as numbers and as instructions.
-/
import Derived.Test.YtiheafdphgllkaaGreatDoorMW43
import Derived.Test.YtiheafdphgllkaaGreatDoorMW44
import Derived.Lib.SlBytesConst
import Derived.ArgAppend
namespace Go.Proofs.YtiheafdphgllkaaGreatDoor
open Go.RowKit
set_option linter.unusedVariables false
set_option maxRecDepth 100000

theorem put_four (x y z t : Int) (n : Nat) (w : World) (hn : n = w.heap.size) (h1 : 0 <= x /\ x < 18446744073709551616) (h2 : 0 <= y /\ y < 18446744073709551616) (h3 : 0 <= z /\ z < 18446744073709551616) (h4 : 0 <= t /\ t < 18446744073709551616) :
  Calls Tryz.prog 19 #[.slice (some ⟨n, 0, none⟩) 4 4] (w.alloc (.cells #[.int .u64 x, .int .u64 y, .int .u64 z, .int .u64 t] 26)) fun e w' => ∃ v, e = .returned v /\ w'.ownsRow w.heap.size 5 1 v (encs [x, y, z, t]).length ((encs [x, y, z, t]).map (Value.int .u8)) /\ Below w.heap.size w w' := by
 subst hn
 have h := put_any _ [x, y, z, t] _ (Sees.lit w .u64 26 [x, y, z, t] _ 4 rfl rfl (by simp) (by intro u hu; simp at hu; rcases hu with rfl | rfl | rfl | rfl <;> exact WalkArith.wf_u64 (by omega))) (by simp)
 refine h.mono ?_
 rintro e w' ⟨v, rfl, hown, hbe⟩
 exact ⟨v, rfl, own_base_w hown (by simp), ((Below.refl _ _).alloc (Nat.le_refl _) _).trans (hbe.mono (by simp))⟩
abbrev headO : Obj := .cells #[.int .u8 84, .int .u8 80, .int .u8 1] 5 (3, 4)
theorem run_head (w : World) : (convert 37 37 (.slice (some ⟨w.heap.size, 0, none⟩) 3 3)).run Tryz.prog (w.alloc (.cells #[.int .u8 84, .int .u8 80, .int .u8 1] 5)) = .ok (.slice (some ⟨w.heap.size, 0, none⟩) 3 3) (w.alloc headO) :=
 Lib.run_convert_bytes_const w 37 5 #[.int .u8 84, .int .u8 80, .int .u8 1] 3 3 Tryz.underlying37 Tryz.underlying5
theorem head_cells {w w2 : World} (hb : Below (w.alloc headO).heap.size (w.alloc headO) w2) : ∀ j u, [Value.int .u8 84, .int .u8 80, .int .u8 1][j]? = some u -> w2.cell? ((⟨w.heap.size, 0, none⟩ : Addr).add j) = some u := by
 intro j u hu
 rw [Addr.add_mid, Nat.zero_add, hb.cell (p := ⟨w.heap.size, j, none⟩) (by simp), cell_of_row (w.alloc headO) w.heap.size j _ _ _ (heap_alloc_new w headO)]
 simpa using hu
theorem own_src {w : World} {base : Nat} {e : TypeId} {v : Value} {cs : List Int} (h : w.ownsRow base e 1 v cs.length (cs.map (Value.int .u8))) (hn : 0 < cs.length) :
  ∃ ad cap, v = .slice (some ad) cs.length cap /\ ∀ j u, (cs.map (Value.int .u8))[j]? = some u -> w.cell? (ad.add j) = some u := by
 obtain ⟨g, cap, rfl, _, _, _, _, hc⟩ := own_open h hn
 exact ⟨⟨g, 0, none⟩, cap, rfl, fun j u hu => by rw [Addr.add_mid, Nat.zero_add]; exact hc j u hu⟩
theorem one_cells (k : IntKind) (cs : List Int) : ∀ u ∈ cs.map (Value.int k), u.oneCell' = true := by
 intro u hu
 obtain ⟨y, _, rfl⟩ := List.mem_map.1 hu
 rfl
structure EncS (W0 wk : World) (v : Value) (bs : List Int) : Prop where
 own : wk.ownsRow W0.heap.size 5 1 v bs.length (bs.map (Value.int .u8))
 below : Below W0.heap.size W0 wk
theorem EncS.head {W0 w1 w2 w3 : World} {v3 : Value} {cs : List Int} (h : Below W0.heap.size W0 w1) (hb : Below (w1.alloc headO).heap.size (w1.alloc headO) w2) (ho : w3.ownsRow w2.heap.size 5 1 v3 (3 + cs.length) ([Value.int .u8 84, .int .u8 80, .int .u8 1] ++ cs.map (Value.int .u8))) (hg : w2.grownBy w3 none) : EncS W0 w3 v3 ([84, 80, 1] ++ cs) := by
 have h2 : Below W0.heap.size W0 w2 := (h.alloc h.size headO).trans (hb.mono (by have := h.size; simp; omega))
 refine ⟨own_base_w (base' := w2.heap.size) ?_ h2.size, h2.grown hg h2.size (by simp)⟩
 have e : ([84, 80, 1] ++ cs).length = 3 + cs.length := by simp; omega
 rw [e]
 simpa using ho
theorem EncS.put {W0 wk w' : World} {v v' : Value} {bs cs : List Int} (h : EncS W0 wk v bs) (hb : Below wk.heap.size wk w') (ho : w'.ownsRow wk.heap.size 5 1 v' cs.length (cs.map (Value.int .u8))) (hc : ∀ x ∈ cs, 0 <= x /\ x <= 255) :
  w'.ownsRow W0.heap.size 5 1 v bs.length (bs.map (Value.int .u8)) /\ Sees .u8 w' v' cs /\ Below W0.heap.size W0 w' :=
 ⟨own_below h.own hb (Nat.le_refl _), Sees.own ho (wf_bytes hc), h.below.trans (hb.mono h.below.size)⟩
theorem EncS.added {W0 wk w' : World} {v v' : Value} {bs cs : List Int} (h : wk.ownsRow W0.heap.size 5 1 v bs.length (bs.map (Value.int .u8))) (hb : Below W0.heap.size W0 wk) (ho : w'.ownsRow W0.heap.size 5 1 v' (bs ++ cs).length ((bs ++ cs).map (Value.int .u8))) (hg : wk.grownBy w' v.ownBlock) : EncS W0 w' v' (bs ++ cs) :=
 ⟨ho, hb.trans (below_grown h hg hb.size)⟩
theorem EncS.alloc {W0 wk : World} {v : Value} {bs : List Int} (h : EncS W0 wk v bs) (o : Obj) : EncS W0 (wk.alloc o) v bs := ⟨h.own.alloc o, h.below.alloc h.below.size o⟩

set_option maxHeartbeats 1600000 in
theorem encode_bad (vm vc : Value) (ms : List Int) (is : List In) (w : World) (h : SeesM w vm vc ms is) (hf : formedB ms is = false) :
  Calls Tryz.prog 7 #[modV vm vc] w fun e w' => e = .returned (.tuple #[.slice none 0 0, .int .i64 2]) /\ Below w.heap.size w w' := by
 obtain ⟨am, km, hvm⟩ := h.maps.shape
 obtain ⟨ac, kc, hvc⟩ := h.code.shape
 have HM := keepH_w (h.below (below_alloc w (.cells #[vm, vc] 25)))
 subst hvm hvc
 clear h
 go_enter Tryz.func7, Tryz.ntmps7
 go_wp2_with (go_at_call 18; go_must (refine (wellFormed_any _ _ ms is _ HM.out).mono ?_); rintro e w1 ⟨rfl, hb⟩; rw [hf])
 go_ret2
 exact ⟨rfl, below_of_alloc hb⟩

set_option maxHeartbeats 6400000 in
theorem encode_ok (vm vc : Value) (ms : List Int) (is : List In) (w : World) (h : SeesM w vm vc ms is) (hf : formedB ms is = true) :
  Calls Tryz.prog 7 #[modV vm vc] w fun e w' => ∃ v, e = .returned (.tuple #[v, .int .i64 0]) /\ w'.ownsRow w.heap.size 5 1 v (modE ms is).length ((modE ms is).map (Value.int .u8)) /\ Below w.heap.size w w' := by
 obtain ⟨i5, hi5, hz50, hz51, hz52⟩ := info_parts Tryz.info5
 obtain ⟨p1, p2, p3, p4, p5⟩ := formed_parts hf
 have HR : Hid (∀ i ∈ is, i.right = true) := p5
 have HFM : Hid (∀ n ∈ ms, 0 <= n /\ n <= 3) := fitF_bd ms [] p4
 obtain ⟨am, km, hvm⟩ := h.maps.shape
 obtain ⟨ac, kc, hvc⟩ := h.code.shape
 have HSM := keepH_w (h.below (below_alloc w (.cells #[vm, vc] 25)))
 have HMD := keepH_w (MdC.new w vm vc)
 have HWF : Hid (∀ i ∈ is, i.wf) := h.wf
 obtain ⟨W0, HW0⟩ : ∃ W0, Hid (W0 = w.alloc (.cells #[vm, vc] 25)) := ⟨_, rfl⟩
 have HB0 : Hid (W0.heap.size = w.heap.size + 1) := by rw [HW0.out]; exact World.size_alloc _ _
 have HM : Hid (∀ wk, Below W0.heap.size W0 wk -> SeesM wk vm vc ms is) := fun wk hb => by
  have h1 := HSM.out
  rw [<- HW0.out] at h1
  exact h1.below hb
 have HD : Hid (∀ wk, Below W0.heap.size W0 wk -> wk.cell? ⟨w.heap.size, 0, none⟩ = some vm /\ wk.cell? ⟨w.heap.size, 1, none⟩ = some vc) := fun wk hb => by
  have h1 := HMD.out
  rw [<- HW0.out] at h1
  exact (h1.below hb (by rw [HB0.out]; omega)).cells
 have HEND : Hid (∀ wk, Below W0.heap.size W0 wk -> Below w.heap.size w wk) := fun wk hb => by
  rw [HW0.out] at hb
  exact below_of_alloc hb
 obtain ⟨L, HL⟩ : ∃ L, Hid (L = ms.length) := ⟨_, rfl⟩
 obtain ⟨N, HN⟩ : ∃ N, Hid (N = is.length) := ⟨_, rfl⟩
 rw [<- HL.out] at hvm p1
 rw [<- HN.out] at hvc p2 p3
 have HVM : Hid (vm = .slice am L km) := hvm
 have HVC : Hid (vc = .slice ac N kc) := hvc
 subst hvm hvc
 clear h p4 p5
 go_enter Tryz.func7, Tryz.ntmps7
 have hel := enc_len (L : Int)
 have hkc := run_head
 go_wp2_with (first
  | (go_at_call 18; go_must (refine (wellFormed_any _ _ ms is _ HSM.out).mono ?_); rintro e w1 ⟨rfl, hb⟩; rw [hf]; go_must (have hb1 : Below W0.heap.size W0 w1 := by { rw [HW0.out]; exact hb }; clear hb; obtain ⟨d0, d1⟩ := HD.out _ (hb1.alloc hb1.size headO)))
  | (go_at_call 19; go_must (refine (put_one (L : Int) _ _ (by simp) (by omega)).mono ?_); rintro e w2 ⟨v2, rfl, ho2, hb2⟩; go_must (obtain ⟨ad, cap2, hv2, hc2⟩ := own_src ho2 (by omega); clear ho2; subst hv2; have HC2 := keepH_w hc2; clear hc2; have HB2 := keepH_w hb2; have HC1 := keepH_w (head_cells hb2); clear hb2))
  | (at_builtin; go_must (refine wpList_append_grows _ rfl (.tmp 14) (.tmp 20) 37 rfl 5 i5 (.int .u8 0) 1 1 Tryz.underlying37 hi5 hz50 hz51 hz52 rfl (by decide) (some ⟨w1.heap.size, 0, none⟩) 3 3 [.int .u8 84, .int .u8 80, .int .u8 1] rfl (by simp) rfl (fun b hb => by cases hb; exact HC1.out) _ _ _ ((enc (L : Int)).map (Value.int .u8)) rfl (by simp) HC2.out (one_cells _ _) (by omega) (by unfold maxLen; omega) (by omega) ?_); intro v3 w3 ho3 hg3; go_must (have E3 := keepH_w (EncS.head hb1 HB2.out ho3 hg3); clear ho3 hg3 HB2 HC1 HC2; obtain ⟨g0, g1⟩ := HD.out _ E3.out.below)))
 clear d0 d1 hb1 hel hkc
 go_loopw [4, 25] (fun v i wr => ∃ k : Nat, k <= L /\ i = .int .i64 k /\ EncS W0 wr v (([84, 80, 1] ++ enc L) ++ encs (ms.take k))) (fun _ i _ => L - (intOf i).toNat)
 case atStart => exact ⟨0, by omega, rfl, by simpa [encs] using E3.out⟩
 case round =>
  clear g0 g1 E3
  obtain ⟨k, hk, rfl, he⟩ := hrel
  have HE := keepH_w he
  have hbl : ((([84, 80, 1] ++ enc L) ++ encs (ms.take k)) : List Int).length <= 1000 := by
   have h1 := enc_len (L : Int)
   have h2 := (encs_len (ms.take k)).1
   rw [List.length_take] at h2
   simp only [List.length_append, List.length_cons, List.length_nil]
   omega
  obtain ⟨bs, HBS⟩ : ∃ bs, Hid (bs = (([84, 80, 1] ++ enc L) ++ encs (ms.take k) : List Int)) := ⟨_, keepH_w rfl⟩
  rw [<- HBS.out] at HE hbl
  have hsz := he.below.size
  clear he
  by_cases hlt : k < L
  ·obtain ⟨n, bk, off, ham, hcell, hn0, hn3, HNX⟩ : ∃ n bk off, am = some ⟨bk, off, none⟩ /\ wr.cell? ⟨bk, off + k, none⟩ = some (.int .i64 n) /\ 0 <= n /\ n <= 3 /\ Hid (encs (ms.take (k + 1)) = encs (ms.take k) ++ enc n) := by
    have hk' : k < ms.length := by rw [<- HL.out]; exact hlt
    obtain ⟨a', cap', hv, _, _, _, _, hs⟩ := (HM.out wr HE.out.below).maps
    injection hv with e1 e2 e3
    subst e1
    obtain ⟨b, off, rfl, _, hc⟩ := hs (fun e => by subst e; simp at hk')
    have hb := HFM.out _ (getD_mem_w ms k hk')
    exact ⟨_, b, off, rfl, hc k hk', hb.1, hb.2, encs_take ms k hk'⟩
   subst ham
   have hel := enc_len n
   go_wp2_with (first
    | (go_at_call 19; go_must (refine (put_one n _ _ (by simp) (by omega)).mono ?_); rintro e w2 ⟨v2, rfl, ho2, hb2⟩; go_must (obtain ⟨q1, q2, q3⟩ := HE.out.put hb2 ho2 (enc_byte (by omega) (by omega)); clear ho2 hb2; have hs3 := q3.size))
    | (at_builtin; go_must (refine wpList_append_sees rfl (.tmp 29) (.tmp 33) 37 rfl _ 5 i5 (.int .u8 0) 1 Tryz.underlying37 hi5 hz50 hz51 hz52 rfl .u8 _ _ rfl q1 _ _ rfl q2 (by unfold maxLen; omega) (by omega) (by omega) ?_); intro v3 w3 ho3 hg3; go_must (have E3 := keepH_w (EncS.added q1 q3 ho3 hg3); clear ho3 hg3 q1 q2)))
   rw [HBS.out, List.append_assoc, <- HNX.out] at E3
   go_roundw
   case rel => exact ⟨k + 1, by omega, by go_num, E3.out⟩
   case measure => simp [intOf]; omega
  ·obtain ⟨d0, d1⟩ := HD.out _ HE.out.below
   have hel := enc_len (N : Int)
   go_wp2_with (first
    | (go_at_call 19; go_must (refine (put_one (N : Int) _ _ (by simp) (by omega)).mono ?_); rintro e w2 ⟨v2, rfl, ho2, hb2⟩; go_must (obtain ⟨q1, q2, q3⟩ := HE.out.put hb2 ho2 (enc_byte (by omega) (by omega)); clear ho2 hb2; have hs3 := q3.size; obtain ⟨d0', d1'⟩ := HD.out _ q3))
    | (at_builtin; go_must (refine wpList_append_sees rfl (.tmp 36) (.tmp 42) 37 rfl _ 5 i5 (.int .u8 0) 1 Tryz.underlying37 hi5 hz50 hz51 hz52 rfl .u8 _ _ rfl q1 _ _ rfl q2 (by unfold maxLen; omega) (by omega) (by omega) ?_); intro v3 w3 ho3 hg3; go_must (have E3 := keepH_w (EncS.added q1 q3 ho3 hg3); clear ho3 hg3 q1 q2; obtain ⟨g0, g1⟩ := HD.out _ E3.out.below)))
   obtain ⟨cs, HCS, hcl⟩ : ∃ cs, Hid (cs = (([84, 80, 1] ++ enc L) ++ encs ms ++ enc N : List Int)) /\ cs.length <= 1010 := ⟨bs ++ enc N, by
    show _ = _
    rw [HBS.out, List.take_of_length_le (by rw [<- HL.out]; omega)], by simp only [List.length_append]; omega⟩
   have E4 : Hid (EncS W0 w3 v3 cs) := by
    have h1 := E3.out
    rw [HBS.out, List.take_of_length_le (by rw [<- HL.out]; omega), <- HCS.out] at h1
    exact h1
   clear d0 d1 d0' d1' q3 hs3 HE hel E3
   go_loopw [4, 47] (fun v i wr => ∃ k : Nat, k <= N /\ i = .int .i64 k /\ EncS W0 wr v (cs ++ codeE (is.take k))) (fun _ i _ => N - (intOf i).toNat)
   case atStart => exact ⟨0, by omega, rfl, by simpa [codeE] using E4.out⟩
   case round =>
    clear g0 g1 E4
    obtain ⟨k, hk, rfl, he⟩ := hrel
    have HE := keepH_w he
    have hbl : (cs ++ codeE (is.take k)).length <= 4300 := by
     have h2 := codeE_len (is.take k)
     rw [List.length_take] at h2
     rw [List.length_append]
     omega
    obtain ⟨ds, HDS⟩ : ∃ ds, Hid (ds = cs ++ codeE (is.take k)) := ⟨_, keepH_w rfl⟩
    rw [<- HDS.out] at HE hbl
    have hsz := he.below.size
    clear he
    by_cases hlt : k < N
    ·obtain ⟨jo, jd, ja, jb, ji, bk, off, hac, hat, hjo, hjd, hja, hjb, hji, HNX, HWI⟩ : ∃ jo jd ja jb ji bk off, ac = some ⟨bk, off, none⟩ /\ At wr bk (off + k * 5) ⟨jo, jd, ja, jb, ji⟩ /\ (0 <= jo /\ jo <= 22) /\ (0 <= jd /\ jd <= 63) /\ (0 <= ja /\ ja <= 63) /\ (0 <= jb /\ jb <= 63) /\ (-9223372036854775808 <= ji /\ ji <= 9223372036854775807) /\ Hid (codeE (is.take (k + 1)) = codeE (is.take k) ++ (encs [jo, jd, ja, jb] ++ enc (foldI ji))) /\ Hid (0 <= foldI ji /\ foldI ji < 18446744073709551616) := by
      have hk' : k < is.length := by rw [<- HN.out]; exact hlt
      obtain ⟨a', cap', hv, _, _, _, hs⟩ := (HM.out wr HE.out.below).code
      injection hv with e1 e2 e3
      subst e1
      obtain ⟨b, off, rfl, _, hc⟩ := hs (fun e => by subst e; simp at hk')
      have hmem : is.getD k In.nil ∈ is := by simp [List.getD, hk']
      obtain ⟨h1, h2, h3, h4⟩ := right_bd (HR.out _ hmem)
      have h5 := bounds_i64 (HWF.out _ hmem).2.2.2.2
      exact ⟨_, _, _, _, _, b, off, rfl, hc k hk', h1, h2, h3, h4, h5, codeE_take is k hk', fold_bd h5.1 h5.2⟩
     subst hac
     obtain ⟨x0, x1, x2, x3, x4⟩ := hat
     simp only at x0 x1 x2 x3 x4
     have hel := (encs_len [jo, jd, ja, jb]).1
     have hel2 := enc_len (foldI ji)
     simp only [List.length_cons, List.length_nil] at hel
     obtain ⟨hjo0, hjo1⟩ := hjo
     obtain ⟨hjd0, hjd1⟩ := hjd
     obtain ⟨hja0, hja1⟩ := hja
     obtain ⟨hjb0, hjb1⟩ := hjb
     go_wp2_with (first
      | (go_at_call 19; go_must (refine (put_four jo jd ja jb _ _ (by simp) (by omega) (by omega) (by omega) (by omega)).mono ?_); rintro e w2 ⟨v2, rfl, ho2, hb2⟩; go_must (obtain ⟨q1, q2, q3⟩ := (HE.out.alloc _).put hb2 ho2 (encs_byte (by intro n hn; simp at hn; omega)); have hcl8 : w2.cell? ⟨wr.heap.size, 4, none⟩ = some (.int .i64 ji) := (hb2.cell (p := ⟨wr.heap.size, 4, none⟩) (by simp)).trans (by simp); have hlt8 : wr.heap.size < w2.heap.size := by { have := hb2.size; simp at this; omega }; clear ho2 hb2; have hs3 := q3.size))
      | (at_builtin; have hq := q1; clear hq; go_must (refine wpList_append_sees rfl (.tmp 51) (.tmp 65) 37 rfl _ 5 i5 (.int .u8 0) 1 Tryz.underlying37 hi5 hz50 hz51 hz52 rfl .u8 _ _ rfl q1 _ _ rfl q2 (by unfold maxLen; omega) (by omega) (by omega) ?_); intro v3 w3 ho3 hg3; go_must (have E3 := keepH_w (EncS.added q1 q3 ho3 hg3); have hcl8' : w3.cell? ⟨wr.heap.size, 4, none⟩ = some (.int .i64 ji) := (grown_cell hg3 hlt8 4 (fun e => Nat.lt_irrefl _ (HE.out.own.lt wr.heap.size e).2)).trans hcl8; clear ho3 hg3 q1 q2))
      | (go_at_call 20; go_must (refine (putint_one ji _ _ (by simp) hji).mono ?_); rintro e w4 ⟨v4, rfl, ho2, hb2⟩; go_must (obtain ⟨r1, r2, r3⟩ := E3.out.put hb2 ho2 (enc_byte HWI.out.1 HWI.out.2); clear ho2 hb2; have hs4 := r3.size))
      | (at_builtin; have hq := r1; clear hq; go_must (refine wpList_append_sees rfl (.tmp 67) (.tmp 71) 37 rfl _ 5 i5 (.int .u8 0) 1 Tryz.underlying37 hi5 hz50 hz51 hz52 rfl .u8 _ _ rfl r1 _ _ rfl r2 (by simp only [List.length_append]; unfold maxLen; omega) (by simp only [List.length_append]; omega) (by omega) ?_); intro v5 w5 ho3 hg3; go_must (have E5 := keepH_w (EncS.added r1 r3 ho3 hg3); clear ho3 hg3 r1 r2)))
     rw [List.append_assoc, HDS.out, List.append_assoc, <- HNX.out] at E5
     go_roundw
     case rel => exact ⟨k + 1, by omega, by go_num, E5.out⟩
     case measure => simp [intOf]; omega
    ·have HM2 : Hid (ds = modE ms is) := by
      show _ = _
      rw [HDS.out, HCS.out, List.take_of_length_le (by rw [<- HN.out]; omega), HL.out, HN.out, modE]
      simp
     rw [HM2.out] at HE
     obtain ⟨av, cv, hvs⟩ : ∃ av cv, u4 = .slice av (modE ms is).length cv := by
      rcases HE.out.own with ⟨_, ⟨rfl, h2⟩ | ⟨g, cap, cur, rfl, _⟩⟩
      ·exact ⟨none, 0, by rw [h2]⟩
      ·exact ⟨_, _, rfl⟩
     subst hvs
     clear hbl HM2
     go_wp2_with fail
     go_ret2
     exact ⟨_, rfl, own_base_w HE.out.own (by rw [HB0.out]; omega), HEND.out _ HE.out.below⟩
end Go.Proofs.YtiheafdphgllkaaGreatDoor
