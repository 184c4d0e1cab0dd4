/-
  J9LeavesC
  J9LeavesD
  J9Leaves
  J9AsksA
  J9AsksB
  J9AsksC
  J9AsksD
  J9Asks
-/
import Derived.Test.YtmdhljoicnommaaGreatMS32
import Derived.Test.YtmdhljoicnommaaGreatMS43
namespace Go.Proofs.YtmdhljoicnommaaGreat
set_option maxHeartbeats 12800000
open Go.RowKit
set_option linter.unusedVariables false
set_option maxRecDepth 100000
set_option linter.unusedSimpArgs false
theorem optV_getD (o:Option (Int×Int)):optV o=.tuple #[.agg #[U8 (o.getD (0,0)).1,U8 (o.getD (0,0)).2],.bool o.isSome]:=by cases o<;>rfl
theorem sdo_as {op a A b B:Int}(f:W64 a)(hA:W64 A)(d:W64 b)(k:W64 B){lo hi:Int}{c:Bool}(g:Hid ((doR op a A b B).getD (0,0)=(lo,hi)))(l:Hid ((doR op a A b B).isSome=c))(w:World) :
  Cl 143 #[I4 op,.agg #[U8 a,U8 A],.agg #[U8 b,U8 B]] w fun e i=>e=.returned (.tuple #[.agg #[U8 lo,U8 hi],.bool c])/\Bw w i:=by
 have:=sdo_any or_way op a A b B w f hA d k;rw [optV_getD,g.out,l.out] at this;exact this
theorem src_ends {i:In}{s:St}(d:∀ t∈s,W64 t.lo/\W64 t.hi)(g:s.length=8)(f:i.b=8∨(0<=i.b/\i.b<=7)):W64 (srcT i s).lo/\W64 (srcT i s).hi:=by
 unfold srcT
 by_cases c:i.b=8
 ·rw [if_pos c];exact ⟨u64_in _,u64_in _⟩
 ·rw [if_neg c]
  have a:i.b.toNat<s.length:=by omega
  unfold regT;rw [List.getD_eq_getElem?_getD,List.getElem?_eq_getElem a];exact d _ (List.getElem_mem a)
theorem reg_ends {s:St}(b:∀ t∈s,W64 t.lo/\W64 t.hi)(d:s.length=8){r:Nat}(c:r<8):W64 (s.getD r Ty.nil).lo/\W64 (s.getD r Ty.nil).hi:=by
 have a:r<s.length:=by omega
 rw [List.getD_eq_getElem?_getD,List.getElem?_eq_getElem a];exact b _ (List.getElem_mem a)
theorem below_dr' {B:Nat}{w Z:World}(h:Below B w Z):Below B w Z.drew:=⟨h.os,h.tape,h.output,h.size,h.block⟩
theorem field_span (c b a d:Int):∀ w:World,(Instr.field 153 (.agg #[I4 c,U8 b,U8 a,I4 d]) 1).run Tryz.prog w=.ok (.agg #[U8 b,U8 a]) w:=fun w=>rfl
theorem SeesT.at8 {w:World}{sb f c:Nat}{s:St}(h:SeesT w (.slice (some ⟨sb,f,none⟩) 8 c) s)(i:s.length=8){r:Nat}(z:r<8):AtT w sb (f+r*4) (s.getD r Ty.nil)/\sb<w.heap.size/\8<=c/\c<=9223372036854775807:=by
 obtain ⟨a,cap,e,B,y,_,l⟩:=h;obtain ⟨b,off,rfl,k,g⟩:=l (fun e=>by rw [e] at i;simp at i);injection e with d A o;injection d with d;injection d with u n;subst u n o;unfold maxLen at y;exact ⟨g r (by omega),k,by omega,by omega⟩
theorem leaves_three (vm : Value)(cb co N a7 p : Nat)(op d a b Q : Int)(sb so a8 : Nat)(s : St)(au : Bool)(w : World)(bf : cb < w.heap.size)(b8 : At w cb (co + p * 5) ⟨op, d, a, b, Q⟩)(bl : p < N)(hN : N <= a7)(bd : a7 <= 9223372036854775807)(hs : SeesT w (.slice (some ⟨sb, so, none⟩) 8 a8) s)(X : s.length = 8)(bj : 1 <= op /\ op <= 10)(hd : 0 <= d /\ d <= 7)(ha : 0 <= a /\ a <= 7)(hb : b = 8 ∨ (0 <= b /\ b <= 7))(hw : ∀ t ∈ s, W64 t.lo /\ W64 t.hi) :
    Cl 121 #[.agg #[vm, .slice (some ⟨cb, co, none⟩) N a7], I4 p, .slice (some ⟨sb, so, none⟩) 8 a8, .bool au] w fun e r => ∃ u, e = .returned (.tuple #[u, .bool true]) /\ r.ownsRow w.heap.size 153 4 u 8 (flatT (s.set d.toNat (doT op (regT s a) (srcT ⟨op, d, a, b, Q⟩ s)))) /\ Bw w r := by
  obtain ⟨c, rfl⟩ := Int.eq_ofNat_of_zero_le hd.1
  have a6 : c < 8 := by omega
  have bp : (c : Int) < 8 := by omega
  have br : (0 : Int) <= c := by omega
  obtain ⟨an, rfl⟩ := Int.eq_ofNat_of_zero_le ha.1
  have b2 : an < 8 := by omega
  have bi : (an : Int) < 8 := by omega
  have be : (0 : Int) <= an := by omega
  obtain ⟨i0, hi, b5, b6, b7⟩ := qCb;obtain ⟨m0, m1, m2, m3, m4⟩ := b8;simp only at m0 m1 m2 m3 m4;obtain ⟨Z, HZ, av, ad, bo⟩ : ∃ Z, Hid (Z = (w.alloc (.cells #[vm, .slice (some ⟨cb, co, none⟩) N a7] 25)).alloc (instO op c an b Q)) /\ Box Z (w.heap.size + 1) op c an b Q /\ Bw w Z /\ Z.heap.size = w.heap.size + 2 :=
    ⟨_, rfl, ⟨by go_cell, by go_cell, by go_cell, by go_cell, by go_cell⟩, by go_grown, by simp⟩
  have b1 : Hid (SeesT Z (.slice (some ⟨sb, so, none⟩) 8 a8) s) := hs.below ad
  have bg : s ≠ [] := fun e => by rw [e] at X; simp at X
  clear hs;obtain ⟨tk, tl, th, tm, HT⟩ : ∃ k lo hi m, Hid (srcT ⟨op, c, an, b, Q⟩ s = ⟨k, lo, hi, m⟩) := ⟨_, _, _, _, rfl⟩;obtain ⟨ak, al, ah, am, HA⟩ : ∃ k lo hi m, Hid (s.getD an Ty.nil = ⟨k, lo, hi, m⟩) := ⟨_, _, _, _, rfl⟩;have b9 : Hid (regT s (an : Int) = ⟨ak, al, ah, am⟩) := HA.out;have we := src_ends (i := ⟨op, c, an, b, Q⟩) hw X hb;rw [HT.out] at we;have wa := reg_ends hw X b2;rw [HA.out] at wa;have K : Hid ((W64 tl /\ W64 th) /\ (W64 al /\ W64 ah)) := ⟨we, wa⟩;rw [HT.out, b9.out];obtain ⟨n, o, HJ⟩ : ∃ x y, Hid ((doR op al ah tl th).getD (0, 0) = (x, y)) := ⟨_, _, rfl⟩;obtain ⟨jb, ai⟩ : ∃ x, Hid ((doR op al ah tl th).isSome = x) := ⟨_, rfl⟩
  have HE : Hid (doT op ⟨ak, al, ah, am⟩ ⟨tk, tl, th, tm⟩ = ⟨1, n, o, 0⟩) := by show _ = _; unfold doT; rw [HJ.out]; rfl
  rw [HE.out]
  have bb : Hid (threeB op = true) := by show _ = _; unfold threeB; simp; omega
  have bn : (op == 0) = false := by simp; omega
  clear hw we wa;go_enter Tryz.func121, Tryz.ntmps121
  go_wp2_with (first
    | (at_builtin; rw [<- HZ.out]; go_must (refine qAw rfl (.tmp 26) (.tmp 27) 124 rfl Z.heap.size 153 i0 (tyV Ty.nil) Tryz.underlying124 hi b5 b6 b7 rfl _ [] rfl (qCy Z Z.heap.size (w.heap.size + 1 + 1) (Nat.le_refl _) (by omega)) _ s rfl (b1.out.below ((Below.refl _ _).alloc (Nat.le_refl _) _)) (by rw [X]; unfold maxLen; simp) (by rw [X]; simp) (by simp) ?_); intro v3 f S aw; go_must (have a4 : Bw Z f := ((Below.refl _ _).alloc (Nat.le_refl _) _).grown aw (by simp) (fun j hj => by (have bh : w.heap.size + 1 + 1 = j := Option.some.inj hj); omega); rw [List.nil_append, X] at S; obtain ⟨g, c3, rfl, ao, bs, bq⟩ := qCe S; have ag := Box.below av a4 (by omega); obtain ⟨x0, x1, x2, x3, x4⟩ := id ag; have aj : Hid (SeesT f (.slice (some ⟨sb, so, none⟩) 8 a8) s) := b1.out.below a4; have ar := a4.size; clear aw))
    | (go_at_call 67; go_must (refine (qBe _ _).mono ?_); rintro e r ⟨rfl, rfl⟩; rw [bb.out]))
  obtain ⟨a5, az, bm, bk⟩ := aj.out.at8 X b2;rw [HA.out] at a5;have ba : (Box f (w.heap.size + 1) op c an b Q /\ f.cell? ⟨sb, so + an * 4 + 1, none⟩ = some (U8 al) /\ f.cell? ⟨sb, so + an * 4 + 2, none⟩ = some (U8 ah)) := ⟨ag, a5.2.1, a5.2.2.1⟩
  have O : Hid (∀ r : World, Bw f r -> (Box r (w.heap.size + 1) op c an b Q /\ r.cell? ⟨sb, so + an * 4 + 1, none⟩ = some (U8 al) /\ r.cell? ⟨sb, so + an * 4 + 2, none⟩ = some (U8 ah))) := fun r ap => ⟨Box.below ag ap (by omega), (ap.cell (p := ⟨sb, so + an * 4 + 1, none⟩) az).trans a5.2.1, (ap.cell (p := ⟨sb, so + an * 4 + 2, none⟩) az).trans a5.2.2.1⟩
  have bc := field_span tk tl th tm;clear a5
  go_region_held3 (fun r => (r.cell? ⟨w.heap.size + 1, 0, none⟩ = some (I4 op) /\ r.cell? ⟨w.heap.size + 1, 1, none⟩ = some (I4 c) /\ r.cell? ⟨w.heap.size + 1, 2, none⟩ = some (I4 an) /\ r.cell? ⟨w.heap.size + 1, 3, none⟩ = some (I4 b) /\ r.cell? ⟨w.heap.size + 1, 4, none⟩ = some (I4 Q)) /\ r.cell? ⟨sb, so + an * 4 + 1, none⟩ = some (U8 al) /\ r.cell? ⟨sb, so + an * 4 + 2, none⟩ = some (U8 ah))
    (first
      | (with_reducible exact aq)
      | (with_reducible exact ay)
      | (with_reducible refine O.out _ ?_; exact qAa (qAa z (Nat.le_refl _)) (Nat.le_refl _))
      | (with_reducible refine O.out _ ?_; exact qAa z (Nat.le_refl _))
      | (with_reducible refine O.out _ ?_; exact qAa (qAa z a0) a0)
      | (with_reducible refine O.out _ ?_; exact qAa z a0)
      | (with_reducible refine O.out _ ?_; exact qAa (qAa (z.alloc U _) U) U)
      | (with_reducible refine O.out _ ?_; exact qAa (z.alloc U _) U)
      | (with_reducible refine O.out _ ?_; exact z.alloc U _)
      | (with_reducible refine O.out _ ?_; exact V.alloc a0 _)
      | (with_reducible refine O.out _ ?_; exact below_dr' ((Below.refl _ _).alloc (Nat.le_refl _) _))
      | exact ba)
    (first
      | (go_at_call 87; refine (qBl (i := ⟨op, c, an, b, Q⟩) (w := f.drew) (aj.out) X hb HT).mono ?_; rintro e A ⟨rfl, R⟩; (have V : Bw f A := qAf R); have ay := O.out _ V; have a0 := V.size; clear R)
      | (go_at_call 87; refine (qBl (i := ⟨op, c, an, b, Q⟩) (w := (f.alloc (spO 0 0)).drew) (aj.out.below (below_dr' ((Below.refl _ _).alloc (Nat.le_refl _) _))) X hb HT).mono ?_; rintro e A ⟨rfl, ae⟩; (have R := qAf ae); (have ax : Bx A f.heap.size 0 0 := Bx.below (w := f.alloc (spO 0 0)) (B := (f.alloc (spO 0 0)).heap.size) ⟨⟨by go_cell, by go_cell⟩, by go_simp, by go_simp⟩ R (by simp)); (have V : Bw f A := ((Below.refl f.heap.size f).alloc (Nat.le_refl _) _).trans (Below.mono (B := (f.alloc (spO 0 0)).heap.size) R (by simp))); have ay := O.out _ V; have a0 := V.size; (have b3 : f.heap.size < A.heap.size := by (have := R.size); simp at this; omega); clear R ae)
      | (go_at_call 143; (have hq := ax; clear hq); refine (sdo_as K.out.2.1 K.out.2.2 K.out.1.1 K.out.1.2 HJ ai _).mono ?_; rintro e D ⟨rfl, F⟩; (have af := Bx.below ax F b3); (have z : Bw f D := V.trans (F.mono a0)); obtain ⟨⟨n0, n1⟩, n2, n3⟩ := id af; have aq := O.out _ z; have U := z.size; (have b4 : f.heap.size < D.heap.size := by (have := F.size); omega); clear F)
      | (go_at_call 143; refine (sdo_as K.out.2.1 K.out.2.2 K.out.1.1 K.out.1.2 HJ ai _).mono (w := A.alloc (spO 0 0)) ?_; rintro e D ⟨rfl, F⟩; (have af : Bx D A.heap.size 0 0 := Bx.below (w := A.alloc (spO 0 0)) ⟨⟨by go_cell, by go_cell⟩, by go_simp, by go_simp⟩ F (by simp)); (have z : Bw f D := (V.alloc a0 _).trans (F.mono (by simp; omega))); obtain ⟨⟨n0, n1⟩, n2, n3⟩ := id af; have aq := O.out _ z; have U := z.size; (have b4 : A.heap.size < D.heap.size := by (have := F.size); simp at this; omega); clear F)
      | (go_at_call 143; refine (sdo_as K.out.2.1 K.out.2.2 K.out.1.1 K.out.1.2 HJ ai _).mono ?_; rintro e D ⟨rfl, F⟩; (have z : Bw f D := V.trans (F.mono a0)); have aq := O.out _ z; have U := z.size; clear F))
  all_goals first
    | (obtain ⟨Y, HY, ab, P, a1⟩ : ∃ Y, Hid (Y = (D.setCell ⟨f.heap.size, 0, none⟩ (U8 n)).setCell ⟨f.heap.size, 1, none⟩ (U8 o)) /\ (Y.cell? ⟨f.heap.size, 0, none⟩ = some (U8 n) /\ Y.cell? ⟨f.heap.size, 1, none⟩ = some (U8 o)) /\ Bw f Y /\ (f.heap.size <= f.heap.size /\ f.heap.size < Y.heap.size) := ⟨_, rfl, qAk n0 n1, qAa (qAa z (by omega)) (by omega), by omega, by first | omega | (simp; done) | (simp; omega) | (simp [World.setCell]; omega)⟩
       rw [<- HY.out];go_wp2;have a9 := (O.out _ P).1;have a3 := P.size;have I : Y.cell? ⟨w.heap.size + 1, 1, none⟩ = some (I4 c) /\ Y.cell? ⟨f.heap.size, 0, none⟩ = some (U8 n) /\ Y.cell? ⟨f.heap.size, 1, none⟩ = some (U8 o) := ⟨a9.2.1, ab⟩
       go_region_held3 (fun r => r.cell? ⟨w.heap.size + 1, 1, none⟩ = some (I4 c) /\ r.cell? ⟨f.heap.size, 0, none⟩ = some (U8 n) /\ r.cell? ⟨f.heap.size, 1, none⟩ = some (U8 o))
         (first | with_reducible exact a2 | with_reducible exact T.out E a2 | exact I)
         (first
           | (go_at_call 123; refine (jnum_any n o Y.drew).mono ?_; rintro e E ⟨rfl, M⟩; (have J : Bw Y E := qAf M); (have L : Bw f E := P.trans (J.mono a3)); (have a2 : E.cell? ⟨w.heap.size + 1, 1, none⟩ = some (I4 c) /\ E.cell? ⟨f.heap.size, 0, none⟩ = some (U8 n) /\ E.cell? ⟨f.heap.size, 1, none⟩ = some (U8 o) := ⟨(J.cell (p := ⟨w.heap.size + 1, 1, none⟩) (show w.heap.size + 1 < Y.heap.size by omega)).trans I.1, (J.cell (p := ⟨f.heap.size, 0, none⟩) a1.2).trans I.2.1, (J.cell (p := ⟨f.heap.size, 1, none⟩) a1.2).trans I.2.2⟩); have l := qBa S L (Nat.le_refl _); obtain ⟨y0, y1, y2, y3, q0, q1, q2, q3⟩ := qCl l a6; have f0 := l.frozenAt (c * 4); have f1 := l.frozenAt (c * 4 + 1); have f2 := l.frozenAt (c * 4 + 2); have f3 := l.frozenAt (c * 4 + 3); (have aa : Hid ((setT E g (c * 4) ⟨1, n, o, 0⟩).ownsRow Z.heap.size 153 4 (.slice (some ⟨g, 0, none⟩) 8 c3) 8 (flatT (s.set c ⟨1, n, o, 0⟩))) := (qCv l c (by rw [X]; exact a6) ⟨1, n, o, 0⟩).1); (have ac : Hid (Bw Z (setT E g (c * 4) ⟨1, n, o, 0⟩)) := qAn (a4.trans (L.mono ar)) ao.1); (have T : Hid (∀ G : World, (G.cell? ⟨w.heap.size + 1, 1, none⟩ = some (I4 c) /\ G.cell? ⟨f.heap.size, 0, none⟩ = some (U8 n) /\ G.cell? ⟨f.heap.size, 1, none⟩ = some (U8 o)) -> ((setT G g (c * 4) ⟨1, n, o, 0⟩).cell? ⟨w.heap.size + 1, 1, none⟩ = some (I4 c) /\ (setT G g (c * 4) ⟨1, n, o, 0⟩).cell? ⟨f.heap.size, 0, none⟩ = some (U8 n) /\ (setT G g (c * 4) ⟨1, n, o, 0⟩).cell? ⟨f.heap.size, 1, none⟩ = some (U8 o))) := fun G hh => ⟨(qAs (by omega)).trans hh.1, (qAs (by omega)).trans hh.2.1, (qAs (by omega)).trans hh.2.2⟩); clear M l))
       go_wp2;go_ret2
       exact ⟨_, rfl, qAx aa.out (by omega), ad.trans (ac.out.mono (by omega))⟩)
    | (obtain ⟨Y, HY, ab, P, a1⟩ : ∃ Y, Hid (Y = (D.setCell ⟨A.heap.size, 0, none⟩ (U8 n)).setCell ⟨A.heap.size, 1, none⟩ (U8 o)) /\ (Y.cell? ⟨A.heap.size, 0, none⟩ = some (U8 n) /\ Y.cell? ⟨A.heap.size, 1, none⟩ = some (U8 o)) /\ Bw f Y /\ (f.heap.size <= A.heap.size /\ A.heap.size < Y.heap.size) := ⟨_, rfl, qAk n0 n1, qAa (qAa z (by omega)) (by omega), by omega, by first | omega | (simp; done) | (simp; omega) | (simp [World.setCell]; omega)⟩
       rw [<- HY.out];go_wp2;have a9 := (O.out _ P).1;have a3 := P.size;have I : Y.cell? ⟨w.heap.size + 1, 1, none⟩ = some (I4 c) /\ Y.cell? ⟨A.heap.size, 0, none⟩ = some (U8 n) /\ Y.cell? ⟨A.heap.size, 1, none⟩ = some (U8 o) := ⟨a9.2.1, ab⟩
       go_region_held3 (fun r => r.cell? ⟨w.heap.size + 1, 1, none⟩ = some (I4 c) /\ r.cell? ⟨A.heap.size, 0, none⟩ = some (U8 n) /\ r.cell? ⟨A.heap.size, 1, none⟩ = some (U8 o))
         (first | with_reducible exact a2 | with_reducible exact T.out E a2 | exact I)
         (first
           | (go_at_call 123; refine (jnum_any n o Y.drew).mono ?_; rintro e E ⟨rfl, M⟩; (have J : Bw Y E := qAf M); (have L : Bw f E := P.trans (J.mono a3)); (have a2 : E.cell? ⟨w.heap.size + 1, 1, none⟩ = some (I4 c) /\ E.cell? ⟨A.heap.size, 0, none⟩ = some (U8 n) /\ E.cell? ⟨A.heap.size, 1, none⟩ = some (U8 o) := ⟨(J.cell (p := ⟨w.heap.size + 1, 1, none⟩) (show w.heap.size + 1 < Y.heap.size by omega)).trans I.1, (J.cell (p := ⟨A.heap.size, 0, none⟩) a1.2).trans I.2.1, (J.cell (p := ⟨A.heap.size, 1, none⟩) a1.2).trans I.2.2⟩); have l := qBa S L (Nat.le_refl _); obtain ⟨y0, y1, y2, y3, q0, q1, q2, q3⟩ := qCl l a6; have f0 := l.frozenAt (c * 4); have f1 := l.frozenAt (c * 4 + 1); have f2 := l.frozenAt (c * 4 + 2); have f3 := l.frozenAt (c * 4 + 3); (have aa : Hid ((setT E g (c * 4) ⟨1, n, o, 0⟩).ownsRow Z.heap.size 153 4 (.slice (some ⟨g, 0, none⟩) 8 c3) 8 (flatT (s.set c ⟨1, n, o, 0⟩))) := (qCv l c (by rw [X]; exact a6) ⟨1, n, o, 0⟩).1); (have ac : Hid (Bw Z (setT E g (c * 4) ⟨1, n, o, 0⟩)) := qAn (a4.trans (L.mono ar)) ao.1); (have T : Hid (∀ G : World, (G.cell? ⟨w.heap.size + 1, 1, none⟩ = some (I4 c) /\ G.cell? ⟨A.heap.size, 0, none⟩ = some (U8 n) /\ G.cell? ⟨A.heap.size, 1, none⟩ = some (U8 o)) -> ((setT G g (c * 4) ⟨1, n, o, 0⟩).cell? ⟨w.heap.size + 1, 1, none⟩ = some (I4 c) /\ (setT G g (c * 4) ⟨1, n, o, 0⟩).cell? ⟨A.heap.size, 0, none⟩ = some (U8 n) /\ (setT G g (c * 4) ⟨1, n, o, 0⟩).cell? ⟨A.heap.size, 1, none⟩ = some (U8 o))) := fun G hh => ⟨(qAs (by omega)).trans hh.1, (qAs (by omega)).trans hh.2.1, (qAs (by omega)).trans hh.2.2⟩); clear M l))
       go_wp2;go_ret2
       exact ⟨_, rfl, qAx aa.out (by omega), ad.trans (ac.out.mono (by omega))⟩)
    | (obtain ⟨Y, HY, ab, P, a1⟩ : ∃ Y, Hid (Y = D.alloc (spO n o)) /\ (Y.cell? ⟨D.heap.size, 0, none⟩ = some (U8 n) /\ Y.cell? ⟨D.heap.size, 1, none⟩ = some (U8 o)) /\ Bw f Y /\ (f.heap.size <= D.heap.size /\ D.heap.size < Y.heap.size) := ⟨_, rfl, ⟨by go_cell, by go_cell⟩, z.alloc U _, by omega, by first | omega | (simp; done) | (simp; omega) | (simp [World.setCell]; omega)⟩
       rw [<- HY.out];go_wp2;have a9 := (O.out _ P).1;have a3 := P.size;have I : Y.cell? ⟨w.heap.size + 1, 1, none⟩ = some (I4 c) /\ Y.cell? ⟨D.heap.size, 0, none⟩ = some (U8 n) /\ Y.cell? ⟨D.heap.size, 1, none⟩ = some (U8 o) := ⟨a9.2.1, ab⟩
       go_region_held3 (fun r => r.cell? ⟨w.heap.size + 1, 1, none⟩ = some (I4 c) /\ r.cell? ⟨D.heap.size, 0, none⟩ = some (U8 n) /\ r.cell? ⟨D.heap.size, 1, none⟩ = some (U8 o))
         (first | with_reducible exact a2 | with_reducible exact T.out E a2 | exact I)
         (first
           | (go_at_call 123; refine (jnum_any n o Y.drew).mono ?_; rintro e E ⟨rfl, M⟩; (have J : Bw Y E := qAf M); (have L : Bw f E := P.trans (J.mono a3)); (have a2 : E.cell? ⟨w.heap.size + 1, 1, none⟩ = some (I4 c) /\ E.cell? ⟨D.heap.size, 0, none⟩ = some (U8 n) /\ E.cell? ⟨D.heap.size, 1, none⟩ = some (U8 o) := ⟨(J.cell (p := ⟨w.heap.size + 1, 1, none⟩) (show w.heap.size + 1 < Y.heap.size by omega)).trans I.1, (J.cell (p := ⟨D.heap.size, 0, none⟩) a1.2).trans I.2.1, (J.cell (p := ⟨D.heap.size, 1, none⟩) a1.2).trans I.2.2⟩); have l := qBa S L (Nat.le_refl _); obtain ⟨y0, y1, y2, y3, q0, q1, q2, q3⟩ := qCl l a6; have f0 := l.frozenAt (c * 4); have f1 := l.frozenAt (c * 4 + 1); have f2 := l.frozenAt (c * 4 + 2); have f3 := l.frozenAt (c * 4 + 3); (have aa : Hid ((setT E g (c * 4) ⟨1, n, o, 0⟩).ownsRow Z.heap.size 153 4 (.slice (some ⟨g, 0, none⟩) 8 c3) 8 (flatT (s.set c ⟨1, n, o, 0⟩))) := (qCv l c (by rw [X]; exact a6) ⟨1, n, o, 0⟩).1); (have ac : Hid (Bw Z (setT E g (c * 4) ⟨1, n, o, 0⟩)) := qAn (a4.trans (L.mono ar)) ao.1); (have T : Hid (∀ G : World, (G.cell? ⟨w.heap.size + 1, 1, none⟩ = some (I4 c) /\ G.cell? ⟨D.heap.size, 0, none⟩ = some (U8 n) /\ G.cell? ⟨D.heap.size, 1, none⟩ = some (U8 o)) -> ((setT G g (c * 4) ⟨1, n, o, 0⟩).cell? ⟨w.heap.size + 1, 1, none⟩ = some (I4 c) /\ (setT G g (c * 4) ⟨1, n, o, 0⟩).cell? ⟨D.heap.size, 0, none⟩ = some (U8 n) /\ (setT G g (c * 4) ⟨1, n, o, 0⟩).cell? ⟨D.heap.size, 1, none⟩ = some (U8 o))) := fun G hh => ⟨(qAs (by omega)).trans hh.1, (qAs (by omega)).trans hh.2.1, (qAs (by omega)).trans hh.2.2⟩); clear M l))
       go_wp2;go_ret2
       exact ⟨_, rfl, qAx aa.out (by omega), ad.trans (ac.out.mono (by omega))⟩)
theorem sref_as {op a A b B:Int}{h:Bool}(f:W64 a)(hA:W64 A)(d:W64 b)(k:W64 B){lo hi:Int}{c:Bool}(g:Hid ((refineR op a A b B h).getD (0,0)=(lo,hi)))(l:Hid ((refineR op a A b B h).isSome=c))(w:World) :
  Cl 145 #[I4 op,.agg #[U8 a,U8 A],.agg #[U8 b,U8 B],.bool h] w fun e i=>e=.returned (.tuple #[.agg #[U8 lo,U8 hi],.bool c])/\Bw w i:=by
 have:=srefine_any op a A b B h w f hA d k;rw [optV_getD,g.out,l.out] at this;exact this
theorem leaves_jump_no (vm : Value)(cb co N L p : Nat)(op d a b n : Int)(sb E M : Nat)(s : St)(F : Bool)(w : World)(aw : cb < w.heap.size)(ag : At w cb (co + p * 5) ⟨op, d, a, b, n⟩)(b5 : p < N)(hN : N <= L)(au : L <= 9223372036854775807)(hs : SeesT w (.slice (some ⟨sb, E, none⟩) 8 M) s)(G : s.length = 8)(b2 : 16 <= op /\ op <= 19)(ha : 0 <= a /\ a <= 7)(hb : b = 8 ∨ (0 <= b /\ b <= 7))(hw : ∀ t ∈ s, W64 t.lo /\ W64 t.hi)(hq : Hid (refineR op (regT s a).lo (regT s a).hi (srcT ⟨op, d, a, b, n⟩ s).lo (srcT ⟨op, d, a, b, n⟩ s).hi F = none)) :
    Cl 121 #[.agg #[vm, .slice (some ⟨cb, co, none⟩) N L], I4 p, .slice (some ⟨sb, E, none⟩) 8 M, .bool F] w fun e r => e = .returned (.tuple #[.slice none 0 0, .bool false]) /\ Bw w r := by
  obtain ⟨an, rfl⟩ := Int.eq_ofNat_of_zero_le ha.1
  have aa : an < 8 := by omega
  have b1 : (an : Int) < 8 := by omega
  have av : (0 : Int) <= an := by omega
  obtain ⟨i0, hi, ad, ae, af⟩ := qCb;obtain ⟨m0, m1, m2, m3, m4⟩ := ag;simp only at m0 m1 m2 m3 m4;obtain ⟨Z, HZ, a4, T, b9⟩ : ∃ Z, Hid (Z = (w.alloc (.cells #[vm, .slice (some ⟨cb, co, none⟩) N L] 25)).alloc (instO op d an b n)) /\ Box Z (w.heap.size + 1) op d an b n /\ Bw w Z /\ Z.heap.size = w.heap.size + 2 :=
    ⟨_, rfl, ⟨by go_cell, by go_cell, by go_cell, by go_cell, by go_cell⟩, by go_grown, by simp⟩
  have a9 : Hid (SeesT Z (.slice (some ⟨sb, E, none⟩) 8 M) s) := hs.below T
  have ax : s ≠ [] := fun e => by rw [e] at G; simp at G
  clear hs;obtain ⟨tk, tl, th, tm, HT⟩ : ∃ k lo hi m, Hid (srcT ⟨op, d, an, b, n⟩ s = ⟨k, lo, hi, m⟩) := ⟨_, _, _, _, rfl⟩;obtain ⟨ak, Q, R, am, HA⟩ : ∃ k lo hi m, Hid (s.getD an Ty.nil = ⟨k, lo, hi, m⟩) := ⟨_, _, _, _, rfl⟩;have aj : Hid (regT s (an : Int) = ⟨ak, Q, R, am⟩) := HA.out;have we := src_ends (i := ⟨op, d, an, b, n⟩) hw G hb;rw [HT.out] at we;have wa := reg_ends hw G aa;rw [HA.out] at wa;have o : Hid ((W64 tl /\ W64 th) /\ (W64 Q /\ W64 R)) := ⟨we, wa⟩;have O := hq.out;rw [HT.out, aj.out] at O;simp only at O
  have HJ : Hid ((refineR op Q R tl th F).getD (0, 0) = (0, 0)) := by show _ = _; rw [O]; rfl
  have Y : Hid ((refineR op Q R tl th F).isSome = false) := by show _ = _; rw [O]; rfl
  have ap : Hid (threeB op = false) := by show _ = _; unfold threeB; simp; omega
  have ai : Hid (jumpB op = true) := by show _ = _; unfold jumpB; simp; omega
  have b8 : (op == 0) = false := by simp; omega
  have ar : (op == 11) = false := by simp; omega
  have ay : (op == 13) = false := by simp; omega
  have bc : (op == 14) = false := by simp; omega
  have b4 : (op == 21) = false := by simp; omega
  clear hw we wa hq O;go_enter Tryz.func121, Tryz.ntmps121
  go_wp2_with (first
    | (at_builtin; rw [<- HZ.out]; go_must (refine qAw rfl (.tmp 26) (.tmp 27) 124 rfl Z.heap.size 153 i0 (tyV Ty.nil) Tryz.underlying124 hi ad ae af rfl _ [] rfl (qCy Z Z.heap.size (w.heap.size + 1 + 1) (Nat.le_refl _) (by omega)) _ s rfl (a9.out.below ((Below.refl _ _).alloc (Nat.le_refl _) _)) (by rw [G]; unfold maxLen; simp) (by rw [G]; simp) (by simp) ?_); intro v3 c S a5; go_must (have I : Bw Z c := ((Below.refl _ _).alloc (Nat.le_refl _) _).grown a5 (by simp) (fun j hj => by (have az : w.heap.size + 1 + 1 = j := Option.some.inj hj); omega); rw [List.nil_append, G] at S; obtain ⟨g, c3, rfl, b7, bb, ba⟩ := qCe S; have X := Box.below a4 I (by omega); obtain ⟨x0, x1, x2, x3, x4⟩ := id X; have a0 : Hid (SeesT c (.slice (some ⟨sb, E, none⟩) 8 M) s) := a9.out.below I; have a3 := I.size; clear a5))
    | (go_at_call 67; go_must (refine (qBe _ _).mono ?_); rintro e r ⟨rfl, rfl⟩; rw [ap.out])
    | (go_at_call 64; go_must (refine (qBf _ _).mono ?_); rintro e r ⟨rfl, rfl⟩; rw [ai.out]))
  obtain ⟨J, a8, b6, b3⟩ := a0.out.at8 G aa;rw [HA.out] at J;have ao : (Box c (w.heap.size + 1) op d an b n /\ c.cell? ⟨sb, E + an * 4 + 1, none⟩ = some (U8 Q) /\ c.cell? ⟨sb, E + an * 4 + 2, none⟩ = some (U8 R)) := ⟨X, J.2.1, J.2.2.1⟩
  have y : Hid (∀ r : World, Bw c r -> (Box r (w.heap.size + 1) op d an b n /\ r.cell? ⟨sb, E + an * 4 + 1, none⟩ = some (U8 Q) /\ r.cell? ⟨sb, E + an * 4 + 2, none⟩ = some (U8 R))) := fun r a1 => ⟨Box.below X a1 (by omega), (a1.cell (p := ⟨sb, E + an * 4 + 1, none⟩) a8).trans J.2.1, (a1.cell (p := ⟨sb, E + an * 4 + 2, none⟩) a8).trans J.2.2.1⟩
  have aq := field_span tk tl th tm;clear J
  go_region_held3 (fun r => (r.cell? ⟨w.heap.size + 1, 0, none⟩ = some (I4 op) /\ r.cell? ⟨w.heap.size + 1, 1, none⟩ = some (I4 d) /\ r.cell? ⟨w.heap.size + 1, 2, none⟩ = some (I4 an) /\ r.cell? ⟨w.heap.size + 1, 3, none⟩ = some (I4 b) /\ r.cell? ⟨w.heap.size + 1, 4, none⟩ = some (I4 n)) /\ r.cell? ⟨sb, E + an * 4 + 1, none⟩ = some (U8 Q) /\ r.cell? ⟨sb, E + an * 4 + 2, none⟩ = some (U8 R))
    (first
      | (with_reducible exact a2)
      | (with_reducible exact a7)
      | (with_reducible refine y.out _ ?_; exact qAa (qAa f (Nat.le_refl _)) (Nat.le_refl _))
      | (with_reducible refine y.out _ ?_; exact qAa f (Nat.le_refl _))
      | (with_reducible refine y.out _ ?_; exact qAa (qAa f D) D)
      | (with_reducible refine y.out _ ?_; exact qAa f D)
      | (with_reducible refine y.out _ ?_; exact qAa (qAa (f.alloc z _) z) z)
      | (with_reducible refine y.out _ ?_; exact qAa (f.alloc z _) z)
      | (with_reducible refine y.out _ ?_; exact f.alloc z _)
      | (with_reducible refine y.out _ ?_; exact A.alloc D _)
      | (with_reducible refine y.out _ ?_; exact below_dr' ((Below.refl _ _).alloc (Nat.le_refl _) _))
      | exact ao)
    (first
      | (go_at_call 87; refine (qBl (i := ⟨op, d, an, b, n⟩) (w := c.drew) (a0.out) G hb HT).mono ?_; rintro e K ⟨rfl, u⟩; (have A : Bw c K := qAf u); have a7 := y.out _ A; have D := A.size; clear u)
      | (go_at_call 87; refine (qBl (i := ⟨op, d, an, b, n⟩) (w := (c.alloc (spO 0 0)).drew) (a0.out.below (below_dr' ((Below.refl _ _).alloc (Nat.le_refl _) _))) G hb HT).mono ?_; rintro e K ⟨rfl, U⟩; (have u := qAf U); (have a6 : Bx K c.heap.size 0 0 := Bx.below (w := c.alloc (spO 0 0)) (B := (c.alloc (spO 0 0)).heap.size) ⟨⟨by go_cell, by go_cell⟩, by go_simp, by go_simp⟩ u (by simp)); (have A : Bw c K := ((Below.refl c.heap.size c).alloc (Nat.le_refl _) _).trans (Below.mono (B := (c.alloc (spO 0 0)).heap.size) u (by simp))); have a7 := y.out _ A; have D := A.size; (have ab : c.heap.size < K.heap.size := by (have := u.size); simp at this; omega); clear u U)
      | (go_at_call 145; (have hq := a6; clear hq); refine (sref_as o.out.2.1 o.out.2.2 o.out.1.1 o.out.1.2 HJ Y _).mono ?_; rintro e P ⟨rfl, l⟩; (have V := Bx.below a6 l ab); (have f : Bw c P := A.trans (l.mono D)); obtain ⟨⟨n0, n1⟩, n2, n3⟩ := id V; have a2 := y.out _ f; have z := f.size; (have ac : c.heap.size < P.heap.size := by (have := l.size); omega); clear l)
      | (go_at_call 145; refine (sref_as o.out.2.1 o.out.2.2 o.out.1.1 o.out.1.2 HJ Y _).mono (w := K.alloc (spO 0 0)) ?_; rintro e P ⟨rfl, l⟩; (have V : Bx P K.heap.size 0 0 := Bx.below (w := K.alloc (spO 0 0)) ⟨⟨by go_cell, by go_cell⟩, by go_simp, by go_simp⟩ l (by simp)); (have f : Bw c P := (A.alloc D _).trans (l.mono (by simp; omega))); obtain ⟨⟨n0, n1⟩, n2, n3⟩ := id V; have a2 := y.out _ f; have z := f.size; (have ac : K.heap.size < P.heap.size := by (have := l.size); simp at this; omega); clear l)
      | (go_at_call 145; refine (sref_as o.out.2.1 o.out.2.2 o.out.1.1 o.out.1.2 HJ Y _).mono ?_; rintro e P ⟨rfl, l⟩; (have f : Bw c P := A.trans (l.mono D)); have a2 := y.out _ f; have z := f.size; clear l))
  all_goals first
    | (go_wp2
       go_ret2
       exact ⟨rfl, T.trans ((I.trans (Below.mono (B := c.heap.size) (qAa (qAa f (by omega)) (by omega)) a3)).mono (by omega))⟩)
    | (go_wp2
       go_ret2
       exact ⟨rfl, T.trans ((I.trans (Below.mono (B := c.heap.size) (qAa (qAa f (by omega)) (by omega)) a3)).mono (by omega))⟩)
    | (go_wp2
       go_ret2
       exact ⟨rfl, T.trans ((I.trans (Below.mono (B := c.heap.size) (f.alloc z _) a3)).mono (by omega))⟩)
theorem leaves_jump_yes (vm : Value)(cb co N a6 p : Nat)(op d a b I : Int)(sb so a7 : Nat)(s : St)(a2 : Bool)(w : World)(bf : cb < w.heap.size)(b6 : At w cb (co + p * 5) ⟨op, d, a, b, I⟩)(bn : p < N)(hN : N <= a6)(bd : a6 <= 9223372036854775807)(hs : SeesT w (.slice (some ⟨sb, so, none⟩) 8 a7) s)(U : s.length = 8)(bk : 16 <= op /\ op <= 19)(ha : 0 <= a /\ a <= 7)(hb : b = 8 ∨ (0 <= b /\ b <= 7))(hw : ∀ t ∈ s, W64 t.lo /\ W64 t.hi)(l n : Int)(hq : Hid (refineR op (regT s a).lo (regT s a).hi (srcT ⟨op, d, a, b, I⟩ s).lo (srcT ⟨op, d, a, b, I⟩ s).hi a2 = some (l, n))) :
    Cl 121 #[.agg #[vm, .slice (some ⟨cb, co, none⟩) N a6], I4 p, .slice (some ⟨sb, so, none⟩) 8 a7, .bool a2] w fun e o => ∃ u, e = .returned (.tuple #[u, .bool true]) /\ o.ownsRow w.heap.size 153 4 u 8 (flatT (s.set a.toNat (num2 l n))) /\ Bw w o := by
  obtain ⟨an, rfl⟩ := Int.eq_ofNat_of_zero_le ha.1
  have a1 : an < 8 := by omega
  have bj : (an : Int) < 8 := by omega
  have be : (0 : Int) <= an := by omega
  obtain ⟨i0, hi, b3, b4, b5⟩ := qCb;obtain ⟨m0, m1, m2, m3, m4⟩ := b6;simp only at m0 m1 m2 m3 m4;obtain ⟨Z, HZ, au, ad, bq⟩ : ∃ Z, Hid (Z = (w.alloc (.cells #[vm, .slice (some ⟨cb, co, none⟩) N a6] 25)).alloc (instO op d an b I)) /\ Box Z (w.heap.size + 1) op d an b I /\ Bw w Z /\ Z.heap.size = w.heap.size + 2 :=
    ⟨_, rfl, ⟨by go_cell, by go_cell, by go_cell, by go_cell, by go_cell⟩, by go_grown, by simp⟩
  have az : Hid (SeesT Z (.slice (some ⟨sb, so, none⟩) 8 a7) s) := hs.below ad
  have bg : s ≠ [] := fun e => by rw [e] at U; simp at U
  clear hs;obtain ⟨tk, tl, th, tm, HT⟩ : ∃ k lo hi m, Hid (srcT ⟨op, d, an, b, I⟩ s = ⟨k, lo, hi, m⟩) := ⟨_, _, _, _, rfl⟩;obtain ⟨ak, al, ah, am, HA⟩ : ∃ k lo hi m, Hid (s.getD an Ty.nil = ⟨k, lo, hi, m⟩) := ⟨_, _, _, _, rfl⟩;have b8 : Hid (regT s (an : Int) = ⟨ak, al, ah, am⟩) := HA.out;have we := src_ends (i := ⟨op, d, an, b, I⟩) hw U hb;rw [HT.out] at we;have wa := reg_ends hw U a1;rw [HA.out] at wa;have J : Hid ((W64 tl /\ W64 th) /\ (W64 al /\ W64 ah)) := ⟨we, wa⟩;have a8 := hq.out;rw [HT.out, b8.out] at a8;simp only at a8
  have HJ : Hid ((refineR op al ah tl th a2).getD (0, 0) = (l, n)) := by show _ = _; rw [a8]; rfl
  have ai : Hid ((refineR op al ah tl th a2).isSome = true) := by show _ = _; rw [a8]; rfl
  have HE : Hid (num2 l n = ⟨1, l, n, 0⟩) := show num2 l n = ⟨1, l, n, 0⟩ from rfl
  rw [HE.out]
  have ba : Hid (threeB op = false) := by show _ = _; unfold threeB; simp; omega
  have b7 : Hid (jumpB op = true) := by show _ = _; unfold jumpB; simp; omega
  have bp : (op == 0) = false := by simp; omega
  have bc : (op == 11) = false := by simp; omega
  have bh : (op == 13) = false := by simp; omega
  have bt : (op == 14) = false := by simp; omega
  have bm : (op == 21) = false := by simp; omega
  clear hw we wa hq a8;go_enter Tryz.func121, Tryz.ntmps121
  go_wp2_with (first
    | (at_builtin; rw [<- HZ.out]; go_must (refine qAw rfl (.tmp 26) (.tmp 27) 124 rfl Z.heap.size 153 i0 (tyV Ty.nil) Tryz.underlying124 hi b3 b4 b5 rfl _ [] rfl (qCy Z Z.heap.size (w.heap.size + 1 + 1) (Nat.le_refl _) (by omega)) _ s rfl (az.out.below ((Below.refl _ _).alloc (Nat.le_refl _) _)) (by rw [U]; unfold maxLen; simp) (by rw [U]; simp) (by simp) ?_); intro v3 c Q av; go_must (have a4 : Bw Z c := ((Below.refl _ _).alloc (Nat.le_refl _) _).grown av (by simp) (fun j hj => by (have bi : w.heap.size + 1 + 1 = j := Option.some.inj hj); omega); rw [List.nil_append, U] at Q; obtain ⟨g, c3, rfl, ao, bs, br⟩ := qCe Q; have ag := Box.below au a4 (by omega); obtain ⟨x0, x1, x2, x3, x4⟩ := id ag; have aj : Hid (SeesT c (.slice (some ⟨sb, so, none⟩) 8 a7) s) := az.out.below a4; have ar := a4.size; clear av))
    | (go_at_call 67; go_must (refine (qBe _ _).mono ?_); rintro e o ⟨rfl, rfl⟩; rw [ba.out])
    | (go_at_call 64; go_must (refine (qBf _ _).mono ?_); rintro e o ⟨rfl, rfl⟩; rw [b7.out]))
  obtain ⟨a5, ay, bo, bl⟩ := aj.out.at8 U a1;rw [HA.out] at a5;have b9 : (Box c (w.heap.size + 1) op d an b I /\ c.cell? ⟨sb, so + an * 4 + 1, none⟩ = some (U8 al) /\ c.cell? ⟨sb, so + an * 4 + 2, none⟩ = some (U8 ah)) := ⟨ag, a5.2.1, a5.2.2.1⟩
  have M : Hid (∀ o : World, Bw c o -> (Box o (w.heap.size + 1) op d an b I /\ o.cell? ⟨sb, so + an * 4 + 1, none⟩ = some (U8 al) /\ o.cell? ⟨sb, so + an * 4 + 2, none⟩ = some (U8 ah))) := fun o ap => ⟨Box.below ag ap (by omega), (ap.cell (p := ⟨sb, so + an * 4 + 1, none⟩) ay).trans a5.2.1, (ap.cell (p := ⟨sb, so + an * 4 + 2, none⟩) ay).trans a5.2.2.1⟩
  have bb := field_span tk tl th tm;clear a5
  go_region_held3 (fun o => (o.cell? ⟨w.heap.size + 1, 0, none⟩ = some (I4 op) /\ o.cell? ⟨w.heap.size + 1, 1, none⟩ = some (I4 d) /\ o.cell? ⟨w.heap.size + 1, 2, none⟩ = some (I4 an) /\ o.cell? ⟨w.heap.size + 1, 3, none⟩ = some (I4 b) /\ o.cell? ⟨w.heap.size + 1, 4, none⟩ = some (I4 I)) /\ o.cell? ⟨sb, so + an * 4 + 1, none⟩ = some (U8 al) /\ o.cell? ⟨sb, so + an * 4 + 2, none⟩ = some (U8 ah))
    (first
      | (with_reducible exact aq)
      | (with_reducible exact ax)
      | (with_reducible refine M.out _ ?_; exact qAa (qAa r (Nat.le_refl _)) (Nat.le_refl _))
      | (with_reducible refine M.out _ ?_; exact qAa r (Nat.le_refl _))
      | (with_reducible refine M.out _ ?_; exact qAa (qAa r V) V)
      | (with_reducible refine M.out _ ?_; exact qAa r V)
      | (with_reducible refine M.out _ ?_; exact qAa (qAa (r.alloc S _) S) S)
      | (with_reducible refine M.out _ ?_; exact qAa (r.alloc S _) S)
      | (with_reducible refine M.out _ ?_; exact r.alloc S _)
      | (with_reducible refine M.out _ ?_; exact T.alloc V _)
      | (with_reducible refine M.out _ ?_; exact below_dr' ((Below.refl _ _).alloc (Nat.le_refl _) _))
      | exact b9)
    (first
      | (go_at_call 87; refine (qBl (i := ⟨op, d, an, b, I⟩) (w := c.drew) (aj.out) U hb HT).mono ?_; rintro e y ⟨rfl, P⟩; (have T : Bw c y := qAf P); have ax := M.out _ T; have V := T.size; clear P)
      | (go_at_call 87; refine (qBl (i := ⟨op, d, an, b, I⟩) (w := (c.alloc (spO 0 0)).drew) (aj.out.below (below_dr' ((Below.refl _ _).alloc (Nat.le_refl _) _))) U hb HT).mono ?_; rintro e y ⟨rfl, ae⟩; (have P := qAf ae); (have aw : Bx y c.heap.size 0 0 := Bx.below (w := c.alloc (spO 0 0)) (B := (c.alloc (spO 0 0)).heap.size) ⟨⟨by go_cell, by go_cell⟩, by go_simp, by go_simp⟩ P (by simp)); (have T : Bw c y := ((Below.refl c.heap.size c).alloc (Nat.le_refl _) _).trans (Below.mono (B := (c.alloc (spO 0 0)).heap.size) P (by simp))); have ax := M.out _ T; have V := T.size; (have b1 : c.heap.size < y.heap.size := by (have := P.size); simp at this; omega); clear P ae)
      | (go_at_call 145; (have hq := aw; clear hq); refine (sref_as J.out.2.1 J.out.2.2 J.out.1.1 J.out.1.2 HJ ai _).mono ?_; rintro e z ⟨rfl, D⟩; (have af := Bx.below aw D b1); (have r : Bw c z := T.trans (D.mono V)); obtain ⟨⟨n0, n1⟩, n2, n3⟩ := id af; have aq := M.out _ r; have S := r.size; (have b2 : c.heap.size < z.heap.size := by (have := D.size); omega); clear D)
      | (go_at_call 145; refine (sref_as J.out.2.1 J.out.2.2 J.out.1.1 J.out.1.2 HJ ai _).mono (w := y.alloc (spO 0 0)) ?_; rintro e z ⟨rfl, D⟩; (have af : Bx z y.heap.size 0 0 := Bx.below (w := y.alloc (spO 0 0)) ⟨⟨by go_cell, by go_cell⟩, by go_simp, by go_simp⟩ D (by simp)); (have r : Bw c z := (T.alloc V _).trans (D.mono (by simp; omega))); obtain ⟨⟨n0, n1⟩, n2, n3⟩ := id af; have aq := M.out _ r; have S := r.size; (have b2 : y.heap.size < z.heap.size := by (have := D.size); simp at this; omega); clear D)
      | (go_at_call 145; refine (sref_as J.out.2.1 J.out.2.2 J.out.1.1 J.out.1.2 HJ ai _).mono ?_; rintro e z ⟨rfl, D⟩; (have r : Bw c z := T.trans (D.mono V)); have aq := M.out _ r; have S := r.size; clear D))
  all_goals first
    | (obtain ⟨Y, HY, ab, O, X⟩ : ∃ Y, Hid (Y = (z.setCell ⟨c.heap.size, 0, none⟩ (U8 l)).setCell ⟨c.heap.size, 1, none⟩ (U8 n)) /\ (Y.cell? ⟨c.heap.size, 0, none⟩ = some (U8 l) /\ Y.cell? ⟨c.heap.size, 1, none⟩ = some (U8 n)) /\ Bw c Y /\ (c.heap.size <= c.heap.size /\ c.heap.size < Y.heap.size) := ⟨_, rfl, qAk n0 n1, qAa (qAa r (by omega)) (by omega), by omega, by first | omega | (simp; done) | (simp; omega) | (simp [World.setCell]; omega)⟩
       rw [<- HY.out];go_wp2;have a9 := (M.out _ O).1;have a3 := O.size;have F : Y.cell? ⟨w.heap.size + 1, 2, none⟩ = some (I4 an) /\ Y.cell? ⟨c.heap.size, 0, none⟩ = some (U8 l) /\ Y.cell? ⟨c.heap.size, 1, none⟩ = some (U8 n) := ⟨a9.2.2.1, ab⟩
       go_region_held3 (fun o => o.cell? ⟨w.heap.size + 1, 2, none⟩ = some (I4 an) /\ o.cell? ⟨c.heap.size, 0, none⟩ = some (U8 l) /\ o.cell? ⟨c.heap.size, 1, none⟩ = some (U8 n))
         (first | with_reducible exact a0 | with_reducible exact R.out A a0 | exact F)
         (first
           | (go_at_call 123; refine (jnum_any l n Y.drew).mono ?_; rintro e A ⟨rfl, L⟩; (have G : Bw Y A := qAf L); (have K : Bw c A := O.trans (G.mono a3)); (have a0 : A.cell? ⟨w.heap.size + 1, 2, none⟩ = some (I4 an) /\ A.cell? ⟨c.heap.size, 0, none⟩ = some (U8 l) /\ A.cell? ⟨c.heap.size, 1, none⟩ = some (U8 n) := ⟨(G.cell (p := ⟨w.heap.size + 1, 2, none⟩) (show w.heap.size + 1 < Y.heap.size by omega)).trans F.1, (G.cell (p := ⟨c.heap.size, 0, none⟩) X.2).trans F.2.1, (G.cell (p := ⟨c.heap.size, 1, none⟩) X.2).trans F.2.2⟩); have f := qBa Q K (Nat.le_refl _); obtain ⟨y0, y1, y2, y3, q0, q1, q2, q3⟩ := qCl f a1; have f0 := f.frozenAt (an * 4); have f1 := f.frozenAt (an * 4 + 1); have f2 := f.frozenAt (an * 4 + 2); have f3 := f.frozenAt (an * 4 + 3); (have aa : Hid ((setT A g (an * 4) ⟨1, l, n, 0⟩).ownsRow Z.heap.size 153 4 (.slice (some ⟨g, 0, none⟩) 8 c3) 8 (flatT (s.set an ⟨1, l, n, 0⟩))) := (qCv f an (by rw [U]; exact a1) ⟨1, l, n, 0⟩).1); (have ac : Hid (Bw Z (setT A g (an * 4) ⟨1, l, n, 0⟩)) := qAn (a4.trans (K.mono ar)) ao.1); (have R : Hid (∀ E : World, (E.cell? ⟨w.heap.size + 1, 2, none⟩ = some (I4 an) /\ E.cell? ⟨c.heap.size, 0, none⟩ = some (U8 l) /\ E.cell? ⟨c.heap.size, 1, none⟩ = some (U8 n)) -> ((setT E g (an * 4) ⟨1, l, n, 0⟩).cell? ⟨w.heap.size + 1, 2, none⟩ = some (I4 an) /\ (setT E g (an * 4) ⟨1, l, n, 0⟩).cell? ⟨c.heap.size, 0, none⟩ = some (U8 l) /\ (setT E g (an * 4) ⟨1, l, n, 0⟩).cell? ⟨c.heap.size, 1, none⟩ = some (U8 n))) := fun E hh => ⟨(qAs (by omega)).trans hh.1, (qAs (by omega)).trans hh.2.1, (qAs (by omega)).trans hh.2.2⟩); clear L f))
       go_wp2;go_ret2
       exact ⟨_, rfl, qAx aa.out (by omega), ad.trans (ac.out.mono (by omega))⟩)
    | (obtain ⟨Y, HY, ab, O, X⟩ : ∃ Y, Hid (Y = (z.setCell ⟨y.heap.size, 0, none⟩ (U8 l)).setCell ⟨y.heap.size, 1, none⟩ (U8 n)) /\ (Y.cell? ⟨y.heap.size, 0, none⟩ = some (U8 l) /\ Y.cell? ⟨y.heap.size, 1, none⟩ = some (U8 n)) /\ Bw c Y /\ (c.heap.size <= y.heap.size /\ y.heap.size < Y.heap.size) := ⟨_, rfl, qAk n0 n1, qAa (qAa r (by omega)) (by omega), by omega, by first | omega | (simp; done) | (simp; omega) | (simp [World.setCell]; omega)⟩
       rw [<- HY.out];go_wp2;have a9 := (M.out _ O).1;have a3 := O.size;have F : Y.cell? ⟨w.heap.size + 1, 2, none⟩ = some (I4 an) /\ Y.cell? ⟨y.heap.size, 0, none⟩ = some (U8 l) /\ Y.cell? ⟨y.heap.size, 1, none⟩ = some (U8 n) := ⟨a9.2.2.1, ab⟩
       go_region_held3 (fun o => o.cell? ⟨w.heap.size + 1, 2, none⟩ = some (I4 an) /\ o.cell? ⟨y.heap.size, 0, none⟩ = some (U8 l) /\ o.cell? ⟨y.heap.size, 1, none⟩ = some (U8 n))
         (first | with_reducible exact a0 | with_reducible exact R.out A a0 | exact F)
         (first
           | (go_at_call 123; refine (jnum_any l n Y.drew).mono ?_; rintro e A ⟨rfl, L⟩; (have G : Bw Y A := qAf L); (have K : Bw c A := O.trans (G.mono a3)); (have a0 : A.cell? ⟨w.heap.size + 1, 2, none⟩ = some (I4 an) /\ A.cell? ⟨y.heap.size, 0, none⟩ = some (U8 l) /\ A.cell? ⟨y.heap.size, 1, none⟩ = some (U8 n) := ⟨(G.cell (p := ⟨w.heap.size + 1, 2, none⟩) (show w.heap.size + 1 < Y.heap.size by omega)).trans F.1, (G.cell (p := ⟨y.heap.size, 0, none⟩) X.2).trans F.2.1, (G.cell (p := ⟨y.heap.size, 1, none⟩) X.2).trans F.2.2⟩); have f := qBa Q K (Nat.le_refl _); obtain ⟨y0, y1, y2, y3, q0, q1, q2, q3⟩ := qCl f a1; have f0 := f.frozenAt (an * 4); have f1 := f.frozenAt (an * 4 + 1); have f2 := f.frozenAt (an * 4 + 2); have f3 := f.frozenAt (an * 4 + 3); (have aa : Hid ((setT A g (an * 4) ⟨1, l, n, 0⟩).ownsRow Z.heap.size 153 4 (.slice (some ⟨g, 0, none⟩) 8 c3) 8 (flatT (s.set an ⟨1, l, n, 0⟩))) := (qCv f an (by rw [U]; exact a1) ⟨1, l, n, 0⟩).1); (have ac : Hid (Bw Z (setT A g (an * 4) ⟨1, l, n, 0⟩)) := qAn (a4.trans (K.mono ar)) ao.1); (have R : Hid (∀ E : World, (E.cell? ⟨w.heap.size + 1, 2, none⟩ = some (I4 an) /\ E.cell? ⟨y.heap.size, 0, none⟩ = some (U8 l) /\ E.cell? ⟨y.heap.size, 1, none⟩ = some (U8 n)) -> ((setT E g (an * 4) ⟨1, l, n, 0⟩).cell? ⟨w.heap.size + 1, 2, none⟩ = some (I4 an) /\ (setT E g (an * 4) ⟨1, l, n, 0⟩).cell? ⟨y.heap.size, 0, none⟩ = some (U8 l) /\ (setT E g (an * 4) ⟨1, l, n, 0⟩).cell? ⟨y.heap.size, 1, none⟩ = some (U8 n))) := fun E hh => ⟨(qAs (by omega)).trans hh.1, (qAs (by omega)).trans hh.2.1, (qAs (by omega)).trans hh.2.2⟩); clear L f))
       go_wp2;go_ret2
       exact ⟨_, rfl, qAx aa.out (by omega), ad.trans (ac.out.mono (by omega))⟩)
    | (obtain ⟨Y, HY, ab, O, X⟩ : ∃ Y, Hid (Y = z.alloc (spO l n)) /\ (Y.cell? ⟨z.heap.size, 0, none⟩ = some (U8 l) /\ Y.cell? ⟨z.heap.size, 1, none⟩ = some (U8 n)) /\ Bw c Y /\ (c.heap.size <= z.heap.size /\ z.heap.size < Y.heap.size) := ⟨_, rfl, ⟨by go_cell, by go_cell⟩, r.alloc S _, by omega, by first | omega | (simp; done) | (simp; omega) | (simp [World.setCell]; omega)⟩
       rw [<- HY.out];go_wp2;have a9 := (M.out _ O).1;have a3 := O.size;have F : Y.cell? ⟨w.heap.size + 1, 2, none⟩ = some (I4 an) /\ Y.cell? ⟨z.heap.size, 0, none⟩ = some (U8 l) /\ Y.cell? ⟨z.heap.size, 1, none⟩ = some (U8 n) := ⟨a9.2.2.1, ab⟩
       go_region_held3 (fun o => o.cell? ⟨w.heap.size + 1, 2, none⟩ = some (I4 an) /\ o.cell? ⟨z.heap.size, 0, none⟩ = some (U8 l) /\ o.cell? ⟨z.heap.size, 1, none⟩ = some (U8 n))
         (first | with_reducible exact a0 | with_reducible exact R.out A a0 | exact F)
         (first
           | (go_at_call 123; refine (jnum_any l n Y.drew).mono ?_; rintro e A ⟨rfl, L⟩; (have G : Bw Y A := qAf L); (have K : Bw c A := O.trans (G.mono a3)); (have a0 : A.cell? ⟨w.heap.size + 1, 2, none⟩ = some (I4 an) /\ A.cell? ⟨z.heap.size, 0, none⟩ = some (U8 l) /\ A.cell? ⟨z.heap.size, 1, none⟩ = some (U8 n) := ⟨(G.cell (p := ⟨w.heap.size + 1, 2, none⟩) (show w.heap.size + 1 < Y.heap.size by omega)).trans F.1, (G.cell (p := ⟨z.heap.size, 0, none⟩) X.2).trans F.2.1, (G.cell (p := ⟨z.heap.size, 1, none⟩) X.2).trans F.2.2⟩); have f := qBa Q K (Nat.le_refl _); obtain ⟨y0, y1, y2, y3, q0, q1, q2, q3⟩ := qCl f a1; have f0 := f.frozenAt (an * 4); have f1 := f.frozenAt (an * 4 + 1); have f2 := f.frozenAt (an * 4 + 2); have f3 := f.frozenAt (an * 4 + 3); (have aa : Hid ((setT A g (an * 4) ⟨1, l, n, 0⟩).ownsRow Z.heap.size 153 4 (.slice (some ⟨g, 0, none⟩) 8 c3) 8 (flatT (s.set an ⟨1, l, n, 0⟩))) := (qCv f an (by rw [U]; exact a1) ⟨1, l, n, 0⟩).1); (have ac : Hid (Bw Z (setT A g (an * 4) ⟨1, l, n, 0⟩)) := qAn (a4.trans (K.mono ar)) ao.1); (have R : Hid (∀ E : World, (E.cell? ⟨w.heap.size + 1, 2, none⟩ = some (I4 an) /\ E.cell? ⟨z.heap.size, 0, none⟩ = some (U8 l) /\ E.cell? ⟨z.heap.size, 1, none⟩ = some (U8 n)) -> ((setT E g (an * 4) ⟨1, l, n, 0⟩).cell? ⟨w.heap.size + 1, 2, none⟩ = some (I4 an) /\ (setT E g (an * 4) ⟨1, l, n, 0⟩).cell? ⟨z.heap.size, 0, none⟩ = some (U8 l) /\ (setT E g (an * 4) ⟨1, l, n, 0⟩).cell? ⟨z.heap.size, 1, none⟩ = some (U8 n))) := fun E hh => ⟨(qAs (by omega)).trans hh.1, (qAs (by omega)).trans hh.2.1, (qAs (by omega)).trans hh.2.2⟩); clear L f))
       go_wp2;go_ret2
       exact ⟨_, rfl, qAx aa.out (by omega), ad.trans (ac.out.mono (by omega))⟩)
def Left9 (w:World) (o:Option St) (e:Ending) (w':World):Prop:=Below w.heap.size w w'/\match o with
 | none=>e=.returned (.tuple #[.slice none 0 0,.bool false])
 | some s'=>∃ u,e=.returned (.tuple #[u,.bool true])/\w'.ownsRow w.heap.size 153 4 u 8 (flatT s')
theorem leaves_any (E R vs:Value)(xs:List In)(p:Nat)(s:St)(c:Bool)(w:World)(V:SeesI w R xs)(B:p<xs.length)(S:SeesT w vs s)(A:s.length=8)(P:∀ t∈s,W64 t.lo/\W64 t.hi)(D:(nth xs p).right=true) :
  Cl 121 #[.agg #[E,R],I4 p,vs,.bool c] w (Left9 w (leavesJ (nth xs p) s c)):=by
 obtain ⟨a1,cap,rfl,g,O,_,L⟩:=V;obtain ⟨I,G,rfl,r,Q⟩:=L (fun e=>by rw [e] at B;simp at B);obtain ⟨Z,f,rfl,T,U,Y,K⟩:=id S;obtain ⟨sb,F,rfl,X,_⟩:=K (fun e=>by rw [e] at A;simp at A);have hA:=Q p B;unfold maxLen at O
 have y:SeesT w (.slice (some ⟨sb,F,none⟩) 8 f) s:=by have:=S;rw [A] at this;exact this
 rw [A];have N:xs.getD p In.nil=nth xs p:=rfl;rw [N] at hA;have h0:0<=(nth xs p).op/\(nth xs p).op<=22:=qBp D
 generalize nth xs p=i at *
 obtain ⟨op,d,a,b,l⟩:=i;simp only at h0;unfold leavesJ;simp only
 by_cases c0:op=0
 ·subst c0;rw [if_pos rfl];have z:=qBs D (.inl (show (0:Int)<=12 by decide))
  exact (leaves_set E I G xs.length cap p d a b l sb F f s c w r hA B g (by omega) y A (qBg D (.inl (show (0:Int)<=11 by decide))) z.2).mono fun e J ⟨u,n,k,o⟩=>⟨o,u,n,k⟩
 rw [if_neg c0]
 by_cases c1:1<=op/\op<=10
 ·rw [if_pos (show threeB op=true by unfold threeB;simp;omega)];have z:=qBs D (.inl (show op<=12 by omega))
  exact (leaves_three E I G xs.length cap p op d a b l sb F f s c w r hA B g (by omega) y A c1 (qBg D (.inl (show op<=11 by omega))) (qBn D (.inl c1)) z.2 P).mono fun e J ⟨u,n,k,o⟩=>⟨o,u,n,k⟩
 rw [if_neg (show ¬ threeB op=true by unfold threeB;simp;omega)]
 by_cases c2:op=11∨op=13
 ·rw [if_pos c2]
  rcases c2 with rfl|rfl
  ·exact (leaves_load E I G xs.length cap p d a b l sb F f s c w r hA B g (by omega) y A (qBg D (.inl (show (11:Int)<=11 by decide)))).mono fun e J ⟨u,n,k,o⟩=>⟨o,u,n,k⟩
  ·exact (leaves_field E I G xs.length cap p d a b l sb F f s c w r hA B g (by omega) y A (qBg D (.inr (.inl rfl)))).mono fun e J ⟨u,n,k,o⟩=>⟨o,u,n,k⟩
 rw [if_neg c2]
 by_cases c3:op=14
 ·subst c3;rw [if_pos rfl]
  exact (leaves_map E I G xs.length cap p d a b l sb F f s c w r hA B g (by omega) y A (qBg D (.inr (.inr rfl)))).mono fun e J ⟨u,n,k,o⟩=>⟨o,u,n,k⟩
 rw [if_neg c3]
 by_cases c4:op=21
 ·subst c4;rw [if_pos rfl]
  exact (leaves_call E I G xs.length cap p d a b l sb F f s c w r hA B g (by omega) y A).mono fun e J ⟨u,n,k,o⟩=>⟨o,u,n,k⟩
 rw [if_neg c4]
 by_cases c5:16<=op/\op<=19
 ·rw [if_pos (show jumpB op=true by unfold jumpB;simp;omega)];have z:=qBs D (.inr c5);have M:=qBn D (.inr (.inr (.inl (show 16<=op/\op<=20 by omega))))
  cases hq:refineR op (regT s a).lo (regT s a).hi (srcT ⟨op,d,a,b,l⟩ s).lo (srcT ⟨op,d,a,b,l⟩ s).hi c with
  | none=>exact (leaves_jump_no E I G xs.length cap p op d a b l sb F f s c w r hA B g (by omega) y A c5 M z.2 P hq).mono fun e J ⟨n,k⟩=>⟨k,n⟩
  | some q=>exact (leaves_jump_yes E I G xs.length cap p op d a b l sb F f s c w r hA B g (by omega) y A c5 M z.2 P q.1 q.2 hq).mono fun e J ⟨u,n,k,o⟩=>⟨o,u,n,k⟩
 ·rw [if_neg (show ¬ jumpB op=true by unfold jumpB;simp;omega)]
  exact (leaves_still E I G xs.length cap p op d a b l sb F f s c w r hA B g (by omega) y A (by omega)).mono fun e J ⟨u,n,k,o⟩=>⟨o,u,n,k⟩
theorem qBt (W:World)(n:Nat)(a:n=W.heap.size):BxT (W.alloc (tyO Ty.nil)) n 0 Ty.nil:=by
 subst a;exact box_new W
theorem asks_set_no (L:Value)(o D N f p:Nat)(d a b c:Int)(sb A g:Nat)(s:St)(T:Value)(w:World)(a3:o<w.heap.size)(F:At w o (D+p*5) ⟨0,d,a,b,c⟩)(a5:p<N)(hN:N<=f)(a6:f<=9223372036854775807)(B:SeesT w (.slice (some ⟨sb,A,none⟩) 8 g) s)(R:s.length=8)(hb:b=8∨(0<=b/\b<=7))(E:Hid (sourceB 0 d a b c=true))(I tl th U:Int)(V:Hid (srcT ⟨0,d,a,b,c⟩ s=⟨I,tl,th,U⟩))(hk:I=0) :
  Cl 52 #[.agg #[L,.slice (some ⟨o,D,none⟩) N f],I4 p,.slice (some ⟨sb,A,none⟩) 8 g,T] w fun e w'=>e=.returned (I4 33)/\Bw w w':=by
 obtain ⟨m0,Y,S,m3,m4⟩:=F;simp only at m0 Y S m3 m4;obtain ⟨Z,HZ,n,z,u,a2⟩:∃ Z,Hid (Z=((w.alloc (.cells #[L,.slice (some ⟨o,D,none⟩) N f] 25)).alloc (instO 0 d a b c)).alloc (.cells #[I4 0,U8 0,U8 0,I4 0] 153))/\Box Z (w.heap.size+1) 0 d a b c/\BxT Z (w.heap.size+1+1) 0 Ty.nil/\Bw w Z/\Z.heap.size=w.heap.size+3 :=
  ⟨_,rfl,⟨by go_cell,by go_cell,by go_cell,by go_cell,by go_cell⟩,qBt _ _ (by simp),by go_grown,by simp⟩
 have P:Hid (SeesT Z (.slice (some ⟨sb,A,none⟩) 8 g) s):=B.below u;have a1:sb<w.heap.size:=(B.at8 R (r:=0) (by omega)).2.1
 have a0:¬ sb=w.heap.size+1+1:=by omega
 have X:¬ w.heap.size+1+1=sb:=by omega
 clear B;subst hk;go_enter Tryz.func52,Tryz.ntmps52
 go_wp2_with (first
  | (go_at_call 86;rw [<- HZ.out];go_must (refine (qBd _ _ _ _ _ _).mono ?_);rintro e w1 ⟨rfl,k⟩;rw [E.out];go_must (have G:=k.size;obtain ⟨M,Q,O,J,K⟩:=Box.below n k (by omega)))
  | (go_at_call 87;go_must (refine (qBl (i:=⟨0,d,a,b,c⟩) (w:=w1) (P.out.below k) R hb V).mono ?_);rintro e w5 ⟨rfl,y⟩;go_must (have l:Bw Z w5:=k.trans (y.mono G);have a4:=l.size;clear M Q O J K;obtain ⟨M,Q,O,J,K⟩:=Box.below n l (by omega);obtain ⟨c0,c1,c2,c3,f0,f1,f2,f3⟩:=(BxT.below z l (by omega)).parts;clear y)))
 go_ret;exact ⟨rfl,qAa (qAa (qAa (qAa (u.trans (l.mono (by omega))) (by omega)) (by omega)) (by omega)) (by omega)⟩
theorem asks_set_yes (L:Value)(o E N f p:Nat)(d a b c:Int)(sb B g:Nat)(s:St)(T:Value)(w:World)(a3:o<w.heap.size)(G:At w o (E+p*5) ⟨0,d,a,b,c⟩)(a5:p<N)(hN:N<=f)(a7:f<=9223372036854775807)(D:SeesT w (.slice (some ⟨sb,B,none⟩) 8 g) s)(R:s.length=8)(hb:b=8∨(0<=b/\b<=7))(F:Hid (sourceB 0 d a b c=true))(A tl th U:Int)(V:Hid (srcT ⟨0,d,a,b,c⟩ s=⟨A,tl,th,U⟩))(hk:¬ A=0) :
  Cl 52 #[.agg #[L,.slice (some ⟨o,E,none⟩) N f],I4 p,.slice (some ⟨sb,B,none⟩) 8 g,T] w fun e w'=>e=.returned (I4 0)/\Bw w w':=by
 obtain ⟨m0,Y,S,m3,m4⟩:=G;simp only at m0 Y S m3 m4;obtain ⟨Z,HZ,n,z,u,a2⟩:∃ Z,Hid (Z=((w.alloc (.cells #[L,.slice (some ⟨o,E,none⟩) N f] 25)).alloc (instO 0 d a b c)).alloc (.cells #[I4 0,U8 0,U8 0,I4 0] 153))/\Box Z (w.heap.size+1) 0 d a b c/\BxT Z (w.heap.size+1+1) 0 Ty.nil/\Bw w Z/\Z.heap.size=w.heap.size+3 :=
  ⟨_,rfl,⟨by go_cell,by go_cell,by go_cell,by go_cell,by go_cell⟩,qBt _ _ (by simp),by go_grown,by simp⟩
 have P:Hid (SeesT Z (.slice (some ⟨sb,B,none⟩) 8 g) s):=D.below u;have a1:sb<w.heap.size:=(D.at8 R (r:=0) (by omega)).2.1
 have a0:¬ sb=w.heap.size+1+1:=by omega
 have X:¬ w.heap.size+1+1=sb:=by omega
 clear D
 have a6:(A==0)=false:=by simp [hk]
 go_enter Tryz.func52,Tryz.ntmps52
 go_wp2_with (first
  | (go_at_call 86;rw [<- HZ.out];go_must (refine (qBd _ _ _ _ _ _).mono ?_);rintro e w1 ⟨rfl,k⟩;rw [F.out];go_must (have I:=k.size;obtain ⟨M,Q,O,J,K⟩:=Box.below n k (by omega)))
  | (go_at_call 87;go_must (refine (qBl (i:=⟨0,d,a,b,c⟩) (w:=w1) (P.out.below k) R hb V).mono ?_);rintro e w5 ⟨rfl,y⟩;go_must (have l:Bw Z w5:=k.trans (y.mono I);have a4:=l.size;clear M Q O J K;obtain ⟨M,Q,O,J,K⟩:=Box.below n l (by omega);obtain ⟨c0,c1,c2,c3,f0,f1,f2,f3⟩:=(BxT.below z l (by omega)).parts;clear y)))
 go_ret;exact ⟨rfl,qAa (qAa (qAa (qAa (u.trans (l.mono (by omega))) (by omega)) (by omega)) (by omega)) (by omega)⟩
theorem asks_load_no (L:Value)(o E N f p:Nat)(d a b c:Int)(sb B g:Nat)(s:St)(T:Value)(w:World)(a3:o<w.heap.size)(G:At w o (E+p*5) ⟨11,d,a,b,c⟩)(a5:p<N)(hN:N<=f)(a7:f<=9223372036854775807)(D:SeesT w (.slice (some ⟨sb,B,none⟩) 8 g) s)(R:s.length=8)(hb:b=8∨(0<=b/\b<=7))(F:Hid (sourceB 11 d a b c=true))(A tl th U:Int)(V:Hid (srcT ⟨11,d,a,b,c⟩ s=⟨A,tl,th,U⟩))(hk:¬ A=1) :
  Cl 52 #[.agg #[L,.slice (some ⟨o,E,none⟩) N f],I4 p,.slice (some ⟨sb,B,none⟩) 8 g,T] w fun e w'=>e=.returned (I4 33)/\Bw w w':=by
 obtain ⟨m0,Y,S,m3,m4⟩:=G;simp only at m0 Y S m3 m4;obtain ⟨Z,HZ,n,z,u,a2⟩:∃ Z,Hid (Z=((w.alloc (.cells #[L,.slice (some ⟨o,E,none⟩) N f] 25)).alloc (instO 11 d a b c)).alloc (.cells #[I4 0,U8 0,U8 0,I4 0] 153))/\Box Z (w.heap.size+1) 11 d a b c/\BxT Z (w.heap.size+1+1) 0 Ty.nil/\Bw w Z/\Z.heap.size=w.heap.size+3 :=
  ⟨_,rfl,⟨by go_cell,by go_cell,by go_cell,by go_cell,by go_cell⟩,qBt _ _ (by simp),by go_grown,by simp⟩
 have P:Hid (SeesT Z (.slice (some ⟨sb,B,none⟩) 8 g) s):=D.below u;have a1:sb<w.heap.size:=(D.at8 R (r:=0) (by omega)).2.1
 have a0:¬ sb=w.heap.size+1+1:=by omega
 have X:¬ w.heap.size+1+1=sb:=by omega
 clear D
 have a6:(A != 1)=true:=by simp [hk]
 go_enter Tryz.func52,Tryz.ntmps52
 go_wp2_with (first
  | (go_at_call 86;rw [<- HZ.out];go_must (refine (qBd _ _ _ _ _ _).mono ?_);rintro e w1 ⟨rfl,k⟩;rw [F.out];go_must (have I:=k.size;obtain ⟨M,Q,O,J,K⟩:=Box.below n k (by omega)))
  | (go_at_call 87;go_must (refine (qBl (i:=⟨11,d,a,b,c⟩) (w:=w1) (P.out.below k) R hb V).mono ?_);rintro e w5 ⟨rfl,y⟩;go_must (have l:Bw Z w5:=k.trans (y.mono I);have a4:=l.size;clear M Q O J K;obtain ⟨M,Q,O,J,K⟩:=Box.below n l (by omega);obtain ⟨c0,c1,c2,c3,f0,f1,f2,f3⟩:=(BxT.below z l (by omega)).parts;clear y)))
 go_ret;exact ⟨rfl,qAa (qAa (qAa (qAa (u.trans (l.mono (by omega))) (by omega)) (by omega)) (by omega)) (by omega)⟩
theorem asks_load_far (L:Value)(o D N f p:Nat)(d a b c:Int)(sb A g:Nat)(s:St)(U:Value)(w:World)(a3:o<w.heap.size)(F:At w o (D+p*5) ⟨11,d,a,b,c⟩)(a5:p<N)(hN:N<=f)(a6:f<=9223372036854775807)(B:SeesT w (.slice (some ⟨sb,A,none⟩) 8 g) s)(S:s.length=8)(hb:b=8∨(0<=b/\b<=7))(E:Hid (sourceB 11 d a b c=true))(I tl O V:Int)(X:Hid (srcT ⟨11,d,a,b,c⟩ s=⟨I,tl,O,V⟩))(hk:I=1)(hh:15<O) :
  Cl 52 #[.agg #[L,.slice (some ⟨o,D,none⟩) N f],I4 p,.slice (some ⟨sb,A,none⟩) 8 g,U] w fun e w'=>e=.returned (I4 35)/\Bw w w':=by
 obtain ⟨m0,m1,T,m3,m4⟩:=F;simp only at m0 m1 T m3 m4;obtain ⟨Z,HZ,n,z,u,a2⟩:∃ Z,Hid (Z=((w.alloc (.cells #[L,.slice (some ⟨o,D,none⟩) N f] 25)).alloc (instO 11 d a b c)).alloc (.cells #[I4 0,U8 0,U8 0,I4 0] 153))/\Box Z (w.heap.size+1) 11 d a b c/\BxT Z (w.heap.size+1+1) 0 Ty.nil/\Bw w Z/\Z.heap.size=w.heap.size+3 :=
  ⟨_,rfl,⟨by go_cell,by go_cell,by go_cell,by go_cell,by go_cell⟩,qBt _ _ (by simp),by go_grown,by simp⟩
 have Q:Hid (SeesT Z (.slice (some ⟨sb,A,none⟩) 8 g) s):=B.below u;have a1:sb<w.heap.size:=(B.at8 S (r:=0) (by omega)).2.1
 have a0:¬ sb=w.heap.size+1+1:=by omega
 have Y:¬ w.heap.size+1+1=sb:=by omega
 clear B;subst hk;go_enter Tryz.func52,Tryz.ntmps52
 go_wp2_with (first
  | (go_at_call 86;rw [<- HZ.out];go_must (refine (qBd _ _ _ _ _ _).mono ?_);rintro e w1 ⟨rfl,k⟩;rw [E.out];go_must (have G:=k.size;obtain ⟨M,R,P,J,K⟩:=Box.below n k (by omega)))
  | (go_at_call 87;go_must (refine (qBl (i:=⟨11,d,a,b,c⟩) (w:=w1) (Q.out.below k) S hb X).mono ?_);rintro e w5 ⟨rfl,y⟩;go_must (have l:Bw Z w5:=k.trans (y.mono G);have a4:=l.size;clear M R P J K;obtain ⟨M,R,P,J,K⟩:=Box.below n l (by omega);obtain ⟨c0,c1,c2,c3,f0,f1,f2,f3⟩:=(BxT.below z l (by omega)).parts;clear y)))
 go_ret;exact ⟨rfl,qAa (qAa (qAa (qAa (u.trans (l.mono (by omega))) (by omega)) (by omega)) (by omega)) (by omega)⟩
theorem asks_load_yes (L:Value)(o D N f p:Nat)(d a b c:Int)(sb A g:Nat)(s:St)(U:Value)(w:World)(a3:o<w.heap.size)(F:At w o (D+p*5) ⟨11,d,a,b,c⟩)(a5:p<N)(hN:N<=f)(a6:f<=9223372036854775807)(B:SeesT w (.slice (some ⟨sb,A,none⟩) 8 g) s)(S:s.length=8)(hb:b=8∨(0<=b/\b<=7))(E:Hid (sourceB 11 d a b c=true))(I tl O V:Int)(X:Hid (srcT ⟨11,d,a,b,c⟩ s=⟨I,tl,O,V⟩))(hk:I=1)(hh:¬ 15<O) :
  Cl 52 #[.agg #[L,.slice (some ⟨o,D,none⟩) N f],I4 p,.slice (some ⟨sb,A,none⟩) 8 g,U] w fun e w'=>e=.returned (I4 0)/\Bw w w':=by
 obtain ⟨m0,m1,T,m3,m4⟩:=F;simp only at m0 m1 T m3 m4;obtain ⟨Z,HZ,n,z,u,a2⟩:∃ Z,Hid (Z=((w.alloc (.cells #[L,.slice (some ⟨o,D,none⟩) N f] 25)).alloc (instO 11 d a b c)).alloc (.cells #[I4 0,U8 0,U8 0,I4 0] 153))/\Box Z (w.heap.size+1) 11 d a b c/\BxT Z (w.heap.size+1+1) 0 Ty.nil/\Bw w Z/\Z.heap.size=w.heap.size+3 :=
  ⟨_,rfl,⟨by go_cell,by go_cell,by go_cell,by go_cell,by go_cell⟩,qBt _ _ (by simp),by go_grown,by simp⟩
 have Q:Hid (SeesT Z (.slice (some ⟨sb,A,none⟩) 8 g) s):=B.below u;have a1:sb<w.heap.size:=(B.at8 S (r:=0) (by omega)).2.1
 have a0:¬ sb=w.heap.size+1+1:=by omega
 have Y:¬ w.heap.size+1+1=sb:=by omega
 clear B;subst hk;go_enter Tryz.func52,Tryz.ntmps52
 go_wp2_with (first
  | (go_at_call 86;rw [<- HZ.out];go_must (refine (qBd _ _ _ _ _ _).mono ?_);rintro e w1 ⟨rfl,k⟩;rw [E.out];go_must (have G:=k.size;obtain ⟨M,R,P,J,K⟩:=Box.below n k (by omega)))
  | (go_at_call 87;go_must (refine (qBl (i:=⟨11,d,a,b,c⟩) (w:=w1) (Q.out.below k) S hb X).mono ?_);rintro e w5 ⟨rfl,y⟩;go_must (have l:Bw Z w5:=k.trans (y.mono G);have a4:=l.size;clear M R P J K;obtain ⟨M,R,P,J,K⟩:=Box.below n l (by omega);obtain ⟨c0,c1,c2,c3,f0,f1,f2,f3⟩:=(BxT.below z l (by omega)).parts;clear y)))
 go_ret;exact ⟨rfl,qAa (qAa (qAa (qAa (u.trans (l.mono (by omega))) (by omega)) (by omega)) (by omega)) (by omega)⟩
theorem asks_two_first (M:Value)(o I N f p:Nat)(op d a b c:Int)(sb G k:Nat)(s:St)(vh:Value)(w:World)(a6:o<w.heap.size)(P:At w o (I+p*5) ⟨op,d,a,b,c⟩)(ae:p<N)(hN:N<=f)(a4:f<=9223372036854775807)(F:SeesT w (.slice (some ⟨sb,G,none⟩) 8 k) s)(J:s.length=8)(hb:b=8∨(0<=b/\b<=7))(D:Hid (sourceB op d a b c=true))(tk tl th U:Int)(HT:Hid (srcT ⟨op,d,a,b,c⟩ s=⟨tk,tl,th,U⟩))(aa:(1<=op/\op<=10)∨op=12∨(16<=op/\op<=19))(ha:0<=a/\a<=7)(ak al ah am:Int)(HA:Hid (regT s a=⟨ak,al,ah,am⟩))(hk:¬ ak=1) :
  Cl 52 #[.agg #[M,.slice (some ⟨o,I,none⟩) N f],I4 p,.slice (some ⟨sb,G,none⟩) 8 k,vh] w fun e w'=>e=.returned (I4 33)/\Bw w w':=by
 obtain ⟨an,rfl⟩:=Int.eq_ofNat_of_zero_le ha.1
 have R:an<8:=by omega
 have a9:(an:Int)<8:=by omega
 have a5:(0:Int)<=an:=by omega
 obtain ⟨m0,V,m2,Y,m4⟩:=P;simp only at m0 V m2 Y m4;obtain ⟨Z,HZ,n,E,y,ap⟩:∃ Z,Hid (Z=((w.alloc (.cells #[M,.slice (some ⟨o,I,none⟩) N f] 25)).alloc (instO op d an b c)).alloc (.cells #[I4 0,U8 0,U8 0,I4 0] 153))/\Box Z (w.heap.size+1) op d an b c/\BxT Z (w.heap.size+1+1) 0 Ty.nil/\Bw w Z/\Z.heap.size=w.heap.size+3 :=
  ⟨_,rfl,⟨by go_cell,by go_cell,by go_cell,by go_cell,by go_cell⟩,qBt _ _ (by simp),by go_grown,by simp⟩
 have B:Hid (SeesT Z (.slice (some ⟨sb,G,none⟩) 8 k) s):=F.below y;have a1:sb<w.heap.size:=(F.at8 J (r:=0) (by omega)).2.1
 have X:¬ sb=w.heap.size+1+1:=by omega
 have a0:¬ w.heap.size+1+1=sb:=by omega
 clear F
 have ao:(op==0)=false:=by simp;omega
 have a3:(op==13)=false:=by simp;omega
 have a7:(op==15)=false:=by simp;omega
 have aq:(op==14)=false:=by simp;omega
 have ad:(op==21)=false:=by simp;omega
 have ai:(op==11)=false:=by simp;omega
 have aj:(op==20)=false:=by simp;omega
 have a2:(op==22)=false:=by simp;omega
 have af:(ak != 1)=true:=by simp [hk]
 go_enter Tryz.func52,Tryz.ntmps52
 go_wp2_with (first
  | (go_at_call 86;rw [<- HZ.out];go_must (refine (qBd _ _ _ _ _ _).mono ?_);rintro e w1 ⟨rfl,l⟩;rw [D.out];go_must (have O:=l.size;obtain ⟨Q,T,S,K,L⟩:=Box.below n l (by omega)))
  | (go_at_call 87;go_must (refine (qBl (i:=⟨op,d,an,b,c⟩) (w:=w1) (B.out.below l) J hb HT).mono ?_);rintro e w5 ⟨rfl,A⟩;go_must (have g:Bw Z w5:=l.trans (A.mono O);have a8:=g.size;clear Q T S K L;obtain ⟨Q,T,S,K,L⟩:=Box.below n g (by omega);obtain ⟨c0,c1,c2,c3,f0,f1,f2,f3⟩:=(BxT.below E g (by omega)).parts;(obtain ⟨z,ac,ag,ab⟩:=(B.out.below g).at8 J R);(have u:=HA.out);(rw [show regT s (an:Int)=s.getD an Ty.nil from rfl] at u);(rw [u] at z);obtain ⟨g0,g1,g2,g3⟩:=z;simp only at g0 g1 g2 g3;clear A)))
 go_ret;exact ⟨rfl,qAa (qAa (qAa (qAa (y.trans (g.mono (by omega))) (by omega)) (by omega)) (by omega)) (by omega)⟩
theorem asks_two_second (O:Value)(o J N f p:Nat)(op d a b c:Int)(sb I k:Nat)(s:St)(vh:Value)(w:World)(a7:o<w.heap.size)(R:At w o (J+p*5) ⟨op,d,a,b,c⟩)(af:p<N)(hN:N<=f)(a5:f<=9223372036854775807)(G:SeesT w (.slice (some ⟨sb,I,none⟩) 8 k) s)(K:s.length=8)(hb:b=8∨(0<=b/\b<=7))(D:Hid (sourceB op d a b c=true))(F tl th X:Int)(HT:Hid (srcT ⟨op,d,a,b,c⟩ s=⟨F,tl,th,X⟩))(ab:(1<=op/\op<=10)∨op=12∨(16<=op/\op<=19))(ha:0<=a/\a<=7)(ak al ah am:Int)(HA:Hid (regT s a=⟨ak,al,ah,am⟩))(hk:ak=1)(P:¬ F=1) :
  Cl 52 #[.agg #[O,.slice (some ⟨o,J,none⟩) N f],I4 p,.slice (some ⟨sb,I,none⟩) 8 k,vh] w fun e w'=>e=.returned (I4 33)/\Bw w w':=by
 obtain ⟨an,rfl⟩:=Int.eq_ofNat_of_zero_le ha.1
 have T:an<8:=by omega
 have aa:(an:Int)<8:=by omega
 have a6:(0:Int)<=an:=by omega
 obtain ⟨m0,Y,m2,m3,m4⟩:=R;simp only at m0 Y m2 m3 m4;obtain ⟨Z,HZ,n,E,y,aq⟩:∃ Z,Hid (Z=((w.alloc (.cells #[O,.slice (some ⟨o,J,none⟩) N f] 25)).alloc (instO op d an b c)).alloc (.cells #[I4 0,U8 0,U8 0,I4 0] 153))/\Box Z (w.heap.size+1) op d an b c/\BxT Z (w.heap.size+1+1) 0 Ty.nil/\Bw w Z/\Z.heap.size=w.heap.size+3 :=
  ⟨_,rfl,⟨by go_cell,by go_cell,by go_cell,by go_cell,by go_cell⟩,qBt _ _ (by simp),by go_grown,by simp⟩
 have B:Hid (SeesT Z (.slice (some ⟨sb,I,none⟩) 8 k) s):=G.below y;have a2:sb<w.heap.size:=(G.at8 K (r:=0) (by omega)).2.1
 have a0:¬ sb=w.heap.size+1+1:=by omega
 have a1:¬ w.heap.size+1+1=sb:=by omega
 clear G
 have ap:(op==0)=false:=by simp;omega
 have a4:(op==13)=false:=by simp;omega
 have a8:(op==15)=false:=by simp;omega
 have ar:(op==14)=false:=by simp;omega
 have ae:(op==21)=false:=by simp;omega
 have aj:(op==11)=false:=by simp;omega
 have ao:(op==20)=false:=by simp;omega
 have a3:(op==22)=false:=by simp;omega
 subst hk
 have ag:(F != 1)=true:=by simp [P]
 go_enter Tryz.func52,Tryz.ntmps52
 go_wp2_with (first
  | (go_at_call 86;rw [<- HZ.out];go_must (refine (qBd _ _ _ _ _ _).mono ?_);rintro e w1 ⟨rfl,l⟩;rw [D.out];go_must (have Q:=l.size;obtain ⟨S,V,U,L,M⟩:=Box.below n l (by omega)))
  | (go_at_call 87;go_must (refine (qBl (i:=⟨op,d,an,b,c⟩) (w:=w1) (B.out.below l) K hb HT).mono ?_);rintro e w5 ⟨rfl,A⟩;go_must (have g:Bw Z w5:=l.trans (A.mono Q);have a9:=g.size;clear S V U L M;obtain ⟨S,V,U,L,M⟩:=Box.below n g (by omega);obtain ⟨c0,c1,c2,c3,f0,f1,f2,f3⟩:=(BxT.below E g (by omega)).parts;(obtain ⟨z,ad,ai,ac⟩:=(B.out.below g).at8 K T);(have u:=HA.out);(rw [show regT s (an:Int)=s.getD an Ty.nil from rfl] at u);(rw [u] at z);obtain ⟨g0,g1,g2,g3⟩:=z;simp only at g0 g1 g2 g3;clear A)))
 go_ret;exact ⟨rfl,qAa (qAa (qAa (qAa (y.trans (g.mono (by omega))) (by omega)) (by omega)) (by omega)) (by omega)⟩
theorem asks_two_yes (M:Value)(o I N f p:Nat)(op d a b c:Int)(sb G k:Nat)(s:St)(vh:Value)(w:World)(a7:o<w.heap.size)(R:At w o (I+p*5) ⟨op,d,a,b,c⟩)(af:p<N)(hN:N<=f)(a5:f<=9223372036854775807)(F:SeesT w (.slice (some ⟨sb,G,none⟩) 8 k) s)(J:s.length=8)(hb:b=8∨(0<=b/\b<=7))(D:Hid (sourceB op d a b c=true))(Q tl th X:Int)(HT:Hid (srcT ⟨op,d,a,b,c⟩ s=⟨Q,tl,th,X⟩))(ab:(1<=op/\op<=10)∨(16<=op/\op<=19))(ha:0<=a/\a<=7)(ak al ah am:Int)(HA:Hid (regT s a=⟨ak,al,ah,am⟩))(hk:ak=1)(O:Q=1) :
  Cl 52 #[.agg #[M,.slice (some ⟨o,I,none⟩) N f],I4 p,.slice (some ⟨sb,G,none⟩) 8 k,vh] w fun e w'=>e=.returned (I4 0)/\Bw w w':=by
 obtain ⟨an,rfl⟩:=Int.eq_ofNat_of_zero_le ha.1
 have T:an<8:=by omega
 have aa:(an:Int)<8:=by omega
 have a6:(0:Int)<=an:=by omega
 obtain ⟨m0,Y,m2,m3,m4⟩:=R;simp only at m0 Y m2 m3 m4;obtain ⟨Z,HZ,n,E,y,aq⟩:∃ Z,Hid (Z=((w.alloc (.cells #[M,.slice (some ⟨o,I,none⟩) N f] 25)).alloc (instO op d an b c)).alloc (.cells #[I4 0,U8 0,U8 0,I4 0] 153))/\Box Z (w.heap.size+1) op d an b c/\BxT Z (w.heap.size+1+1) 0 Ty.nil/\Bw w Z/\Z.heap.size=w.heap.size+3 :=
  ⟨_,rfl,⟨by go_cell,by go_cell,by go_cell,by go_cell,by go_cell⟩,qBt _ _ (by simp),by go_grown,by simp⟩
 have B:Hid (SeesT Z (.slice (some ⟨sb,G,none⟩) 8 k) s):=F.below y;have a2:sb<w.heap.size:=(F.at8 J (r:=0) (by omega)).2.1
 have a0:¬ sb=w.heap.size+1+1:=by omega
 have a1:¬ w.heap.size+1+1=sb:=by omega
 clear F
 have ap:(op==0)=false:=by simp;omega
 have a4:(op==13)=false:=by simp;omega
 have a8:(op==15)=false:=by simp;omega
 have ar:(op==14)=false:=by simp;omega
 have ae:(op==21)=false:=by simp;omega
 have ai:(op==11)=false:=by simp;omega
 have ao:(op==20)=false:=by simp;omega
 have a3:(op==22)=false:=by simp;omega
 have aj:(op==12)=false:=by simp;omega
 subst hk O;go_enter Tryz.func52,Tryz.ntmps52
 go_wp2_with (first
  | (go_at_call 86;rw [<- HZ.out];go_must (refine (qBd _ _ _ _ _ _).mono ?_);rintro e w1 ⟨rfl,l⟩;rw [D.out];go_must (have P:=l.size;obtain ⟨S,V,U,K,L⟩:=Box.below n l (by omega)))
  | (go_at_call 87;go_must (refine (qBl (i:=⟨op,d,an,b,c⟩) (w:=w1) (B.out.below l) J hb HT).mono ?_);rintro e w5 ⟨rfl,A⟩;go_must (have g:Bw Z w5:=l.trans (A.mono P);have a9:=g.size;clear S V U K L;obtain ⟨S,V,U,K,L⟩:=Box.below n g (by omega);obtain ⟨c0,c1,c2,c3,f0,f1,f2,f3⟩:=(BxT.below E g (by omega)).parts;(obtain ⟨z,ad,ag,ac⟩:=(B.out.below g).at8 J T);(have u:=HA.out);(rw [show regT s (an:Int)=s.getD an Ty.nil from rfl] at u);(rw [u] at z);obtain ⟨g0,g1,g2,g3⟩:=z;simp only at g0 g1 g2 g3;clear A)))
 go_ret;exact ⟨rfl,qAa (qAa (qAa (qAa (y.trans (g.mono (by omega))) (by omega)) (by omega)) (by omega)) (by omega)⟩
theorem asks_store_far (R:Value)(o F N f p:Nat)(d a b c:Int)(sb E k:Nat)(s:St)(vh:Value)(w:World)(a6:o<w.heap.size)(K:At w o (F+p*5) ⟨12,d,a,b,c⟩)(a9:p<N)(hN:N<=f)(ac:f<=9223372036854775807)(I:SeesT w (.slice (some ⟨sb,E,none⟩) 8 k) s)(J:s.length=8)(hb:b=8∨(0<=b/\b<=7))(G:Hid (sourceB 12 d a b c=true))(M tl T tm:Int)(HT:Hid (srcT ⟨12,d,a,b,c⟩ s=⟨M,tl,T,tm⟩))(ha:0<=a/\a<=7)(ak al ah am:Int)(Y:Hid (regT s a=⟨ak,al,ah,am⟩))(hk:ak=1)(X:M=1)(hh:15<T) :
  Cl 52 #[.agg #[R,.slice (some ⟨o,F,none⟩) N f],I4 p,.slice (some ⟨sb,E,none⟩) 8 k,vh] w fun e w'=>e=.returned (I4 35)/\Bw w w':=by
 obtain ⟨an,rfl⟩:=Int.eq_ofNat_of_zero_le ha.1
 have O:an<8:=by omega
 have a8:(an:Int)<8:=by omega
 have a5:(0:Int)<=an:=by omega
 obtain ⟨m0,m1,m2,m3,m4⟩:=K;simp only at m0 m1 m2 m3 m4;obtain ⟨Z,HZ,n,D,z,a4⟩:∃ Z,Hid (Z=((w.alloc (.cells #[R,.slice (some ⟨o,F,none⟩) N f] 25)).alloc (instO 12 d an b c)).alloc (.cells #[I4 0,U8 0,U8 0,I4 0] 153))/\Box Z (w.heap.size+1) 12 d an b c/\BxT Z (w.heap.size+1+1) 0 Ty.nil/\Bw w Z/\Z.heap.size=w.heap.size+3 :=
  ⟨_,rfl,⟨by go_cell,by go_cell,by go_cell,by go_cell,by go_cell⟩,qBt _ _ (by simp),by go_grown,by simp⟩
 have B:Hid (SeesT Z (.slice (some ⟨sb,E,none⟩) 8 k) s):=I.below z;have a2:sb<w.heap.size:=(I.at8 J (r:=0) (by omega)).2.1
 have a1:¬ sb=w.heap.size+1+1:=by omega
 have a0:¬ w.heap.size+1+1=sb:=by omega
 clear I;subst hk X;go_enter Tryz.func52,Tryz.ntmps52
 go_wp2_with (first
  | (go_at_call 86;rw [<- HZ.out];go_must (refine (qBd _ _ _ _ _ _).mono ?_);rintro e w1 ⟨rfl,l⟩;rw [G.out];go_must (have L:=l.size;obtain ⟨S,V,U,P,Q⟩:=Box.below n l (by omega)))
  | (go_at_call 87;go_must (refine (qBl (i:=⟨12,d,an,b,c⟩) (w:=w1) (B.out.below l) J hb HT).mono ?_);rintro e w5 ⟨rfl,A⟩;go_must (have g:Bw Z w5:=l.trans (A.mono L);have a7:=g.size;clear S V U P Q;obtain ⟨S,V,U,P,Q⟩:=Box.below n g (by omega);obtain ⟨c0,c1,c2,c3,f0,f1,f2,f3⟩:=(BxT.below D g (by omega)).parts;(obtain ⟨y,a3,aa,ab⟩:=(B.out.below g).at8 J O);(have u:=Y.out);(rw [show regT s (an:Int)=s.getD an Ty.nil from rfl] at u);(rw [u] at y);obtain ⟨g0,g1,g2,g3⟩:=y;simp only at g0 g1 g2 g3;clear A)))
 go_ret;exact ⟨rfl,qAa (qAa (qAa (qAa (z.trans (g.mono (by omega))) (by omega)) (by omega)) (by omega)) (by omega)⟩
theorem asks_store_yes (R:Value)(o F N f p:Nat)(d a b c:Int)(sb E k:Nat)(s:St)(vh:Value)(w:World)(a6:o<w.heap.size)(K:At w o (F+p*5) ⟨12,d,a,b,c⟩)(a9:p<N)(hN:N<=f)(ac:f<=9223372036854775807)(I:SeesT w (.slice (some ⟨sb,E,none⟩) 8 k) s)(J:s.length=8)(hb:b=8∨(0<=b/\b<=7))(G:Hid (sourceB 12 d a b c=true))(M tl T tm:Int)(HT:Hid (srcT ⟨12,d,a,b,c⟩ s=⟨M,tl,T,tm⟩))(ha:0<=a/\a<=7)(ak al ah am:Int)(Y:Hid (regT s a=⟨ak,al,ah,am⟩))(hk:ak=1)(X:M=1)(hh:¬ 15<T) :
  Cl 52 #[.agg #[R,.slice (some ⟨o,F,none⟩) N f],I4 p,.slice (some ⟨sb,E,none⟩) 8 k,vh] w fun e w'=>e=.returned (I4 0)/\Bw w w':=by
 obtain ⟨an,rfl⟩:=Int.eq_ofNat_of_zero_le ha.1
 have O:an<8:=by omega
 have a8:(an:Int)<8:=by omega
 have a5:(0:Int)<=an:=by omega
 obtain ⟨m0,m1,m2,m3,m4⟩:=K;simp only at m0 m1 m2 m3 m4;obtain ⟨Z,HZ,n,D,z,a4⟩:∃ Z,Hid (Z=((w.alloc (.cells #[R,.slice (some ⟨o,F,none⟩) N f] 25)).alloc (instO 12 d an b c)).alloc (.cells #[I4 0,U8 0,U8 0,I4 0] 153))/\Box Z (w.heap.size+1) 12 d an b c/\BxT Z (w.heap.size+1+1) 0 Ty.nil/\Bw w Z/\Z.heap.size=w.heap.size+3 :=
  ⟨_,rfl,⟨by go_cell,by go_cell,by go_cell,by go_cell,by go_cell⟩,qBt _ _ (by simp),by go_grown,by simp⟩
 have B:Hid (SeesT Z (.slice (some ⟨sb,E,none⟩) 8 k) s):=I.below z;have a2:sb<w.heap.size:=(I.at8 J (r:=0) (by omega)).2.1
 have a1:¬ sb=w.heap.size+1+1:=by omega
 have a0:¬ w.heap.size+1+1=sb:=by omega
 clear I;subst hk X;go_enter Tryz.func52,Tryz.ntmps52
 go_wp2_with (first
  | (go_at_call 86;rw [<- HZ.out];go_must (refine (qBd _ _ _ _ _ _).mono ?_);rintro e w1 ⟨rfl,l⟩;rw [G.out];go_must (have L:=l.size;obtain ⟨S,V,U,P,Q⟩:=Box.below n l (by omega)))
  | (go_at_call 87;go_must (refine (qBl (i:=⟨12,d,an,b,c⟩) (w:=w1) (B.out.below l) J hb HT).mono ?_);rintro e w5 ⟨rfl,A⟩;go_must (have g:Bw Z w5:=l.trans (A.mono L);have a7:=g.size;clear S V U P Q;obtain ⟨S,V,U,P,Q⟩:=Box.below n g (by omega);obtain ⟨c0,c1,c2,c3,f0,f1,f2,f3⟩:=(BxT.below D g (by omega)).parts;(obtain ⟨y,a3,aa,ab⟩:=(B.out.below g).at8 J O);(have u:=Y.out);(rw [show regT s (an:Int)=s.getD an Ty.nil from rfl] at u);(rw [u] at y);obtain ⟨g0,g1,g2,g3⟩:=y;simp only at g0 g1 g2 g3;clear A)))
 go_ret;exact ⟨rfl,qAa (qAa (qAa (qAa (z.trans (g.mono (by omega))) (by omega)) (by omega)) (by omega)) (by omega)⟩
theorem asks_field (am:Option Addr)(nm mcap:Nat)(l y N c p:Nat)(d a b i:Int)(sb o f:Nat)(s:St)(F:Value)(w:World)(S:l<w.heap.size)(A:At w l (y+p*5) ⟨13,d,a,b,i⟩)(V:p<N)(hN:N<=c)(Y:c<=9223372036854775807)(u:SeesT w (.slice (some ⟨sb,o,none⟩) 8 f) s)(Q:s.length=8)(z:Hid (sourceB 13 d a b i=false))  :
  Cl 52 #[.agg #[.slice am nm mcap,.slice (some ⟨l,y,none⟩) N c],I4 p,.slice (some ⟨sb,o,none⟩) 8 f,F] w fun e P=>e=.returned (I4 0)/\Bw w P:=by
 obtain ⟨m0,I,E,L,M⟩:=A;simp only at m0 I E L M;obtain ⟨Z,K,k,D,B,n,R⟩:∃ Z,Hid (Z=((w.alloc (.cells #[.slice am nm mcap,.slice (some ⟨l,y,none⟩) N c] 25)).alloc (instO 13 d a b i)).alloc (.cells #[I4 0,U8 0,U8 0,I4 0] 153))/\Box Z (w.heap.size+1) 13 d a b i/\BxT Z (w.heap.size+1+1) 0 Ty.nil/\Z.cell? ⟨w.heap.size,0,none⟩=some (.slice am nm mcap)/\Bw w Z/\Z.heap.size=w.heap.size+3 :=
  ⟨_,rfl,⟨by go_cell,by go_cell,by go_cell,by go_cell,by go_cell⟩,qBt _ _ (by simp),by go_cell,by go_grown,by simp⟩
 have X:Hid (SeesT Z (.slice (some ⟨sb,o,none⟩) 8 f) s):=u.below n;have O:sb<w.heap.size:=(u.at8 Q (r:=0) (by omega)).2.1
 have J:¬ sb=w.heap.size+1+1:=by omega
 have G:¬ w.heap.size+1+1=sb:=by omega
 clear u;go_enter Tryz.func52,Tryz.ntmps52
 go_wp2_with (go_at_call 86;rw [<- K.out];go_must (refine (qBd _ _ _ _ _ _).mono ?_);rintro e w1 ⟨rfl,g⟩;rw [z.out];go_must (have T:=g.size;have U:=(g.cell (p:=⟨w.heap.size,0,none⟩) (show w.heap.size<Z.heap.size by omega)).trans B;obtain ⟨x0,x1,x2,x3,x4⟩:=Box.below k g (by omega)))
 go_ret;exact ⟨rfl,n.trans (g.mono (by omega))⟩
theorem asks_jump (am:Option Addr)(nm mcap:Nat)(l y N c p:Nat)(d a b i:Int)(sb o f:Nat)(s:St)(F:Value)(w:World)(S:l<w.heap.size)(A:At w l (y+p*5) ⟨15,d,a,b,i⟩)(V:p<N)(hN:N<=c)(Y:c<=9223372036854775807)(u:SeesT w (.slice (some ⟨sb,o,none⟩) 8 f) s)(Q:s.length=8)(z:Hid (sourceB 15 d a b i=false))  :
  Cl 52 #[.agg #[.slice am nm mcap,.slice (some ⟨l,y,none⟩) N c],I4 p,.slice (some ⟨sb,o,none⟩) 8 f,F] w fun e P=>e=.returned (I4 0)/\Bw w P:=by
 obtain ⟨m0,I,E,L,M⟩:=A;simp only at m0 I E L M;obtain ⟨Z,K,k,D,B,n,R⟩:∃ Z,Hid (Z=((w.alloc (.cells #[.slice am nm mcap,.slice (some ⟨l,y,none⟩) N c] 25)).alloc (instO 15 d a b i)).alloc (.cells #[I4 0,U8 0,U8 0,I4 0] 153))/\Box Z (w.heap.size+1) 15 d a b i/\BxT Z (w.heap.size+1+1) 0 Ty.nil/\Z.cell? ⟨w.heap.size,0,none⟩=some (.slice am nm mcap)/\Bw w Z/\Z.heap.size=w.heap.size+3 :=
  ⟨_,rfl,⟨by go_cell,by go_cell,by go_cell,by go_cell,by go_cell⟩,qBt _ _ (by simp),by go_cell,by go_grown,by simp⟩
 have X:Hid (SeesT Z (.slice (some ⟨sb,o,none⟩) 8 f) s):=u.below n;have O:sb<w.heap.size:=(u.at8 Q (r:=0) (by omega)).2.1
 have J:¬ sb=w.heap.size+1+1:=by omega
 have G:¬ w.heap.size+1+1=sb:=by omega
 clear u;go_enter Tryz.func52,Tryz.ntmps52
 go_wp2_with (go_at_call 86;rw [<- K.out];go_must (refine (qBd _ _ _ _ _ _).mono ?_);rintro e w1 ⟨rfl,g⟩;rw [z.out];go_must (have T:=g.size;have U:=(g.cell (p:=⟨w.heap.size,0,none⟩) (show w.heap.size<Z.heap.size by omega)).trans B;obtain ⟨x0,x1,x2,x3,x4⟩:=Box.below k g (by omega)))
 go_ret;exact ⟨rfl,n.trans (g.mono (by omega))⟩
theorem asks_map_no (am:Option Addr)(nm mcap:Nat)(l y N c p:Nat)(d a b f:Int)(sb o g:Nat)(s:St)(F:Value)(w:World)(S:l<w.heap.size)(A:At w l (y+p*5) ⟨14,d,a,b,f⟩)(V:p<N)(hN:N<=c)(Y:c<=9223372036854775807)(u:SeesT w (.slice (some ⟨sb,o,none⟩) 8 g) s)(Q:s.length=8)(z:Hid (sourceB 14 d a b f=false))(hk:(nm:Int)<=f) :
  Cl 52 #[.agg #[.slice am nm mcap,.slice (some ⟨l,y,none⟩) N c],I4 p,.slice (some ⟨sb,o,none⟩) 8 g,F] w fun e P=>e=.returned (I4 35)/\Bw w P:=by
 obtain ⟨m0,I,E,L,M⟩:=A;simp only at m0 I E L M;obtain ⟨Z,K,k,D,B,n,R⟩:∃ Z,Hid (Z=((w.alloc (.cells #[.slice am nm mcap,.slice (some ⟨l,y,none⟩) N c] 25)).alloc (instO 14 d a b f)).alloc (.cells #[I4 0,U8 0,U8 0,I4 0] 153))/\Box Z (w.heap.size+1) 14 d a b f/\BxT Z (w.heap.size+1+1) 0 Ty.nil/\Z.cell? ⟨w.heap.size,0,none⟩=some (.slice am nm mcap)/\Bw w Z/\Z.heap.size=w.heap.size+3 :=
  ⟨_,rfl,⟨by go_cell,by go_cell,by go_cell,by go_cell,by go_cell⟩,qBt _ _ (by simp),by go_cell,by go_grown,by simp⟩
 have X:Hid (SeesT Z (.slice (some ⟨sb,o,none⟩) 8 g) s):=u.below n;have O:sb<w.heap.size:=(u.at8 Q (r:=0) (by omega)).2.1
 have J:¬ sb=w.heap.size+1+1:=by omega
 have G:¬ w.heap.size+1+1=sb:=by omega
 clear u;go_enter Tryz.func52,Tryz.ntmps52
 go_wp2_with (go_at_call 86;rw [<- K.out];go_must (refine (qBd _ _ _ _ _ _).mono ?_);rintro e w1 ⟨rfl,i⟩;rw [z.out];go_must (have T:=i.size;have U:=(i.cell (p:=⟨w.heap.size,0,none⟩) (show w.heap.size<Z.heap.size by omega)).trans B;obtain ⟨x0,x1,x2,x3,x4⟩:=Box.below k i (by omega)))
 go_ret;exact ⟨rfl,n.trans (i.mono (by omega))⟩
theorem asks_map_yes (am:Option Addr)(nm mcap:Nat)(l y N f p:Nat)(d a b c:Int)(sb o g:Nat)(s:St)(F:Value)(w:World)(S:l<w.heap.size)(A:At w l (y+p*5) ⟨14,d,a,b,c⟩)(V:p<N)(hN:N<=f)(a0:f<=9223372036854775807)(u:SeesT w (.slice (some ⟨sb,o,none⟩) 8 g) s)(Q:s.length=8)(z:Hid (sourceB 14 d a b c=false))(hk:¬ (nm:Int)<=c) :
  Cl 52 #[.agg #[.slice am nm mcap,.slice (some ⟨l,y,none⟩) N f],I4 p,.slice (some ⟨sb,o,none⟩) 8 g,F] w fun e P=>e=.returned (I4 0)/\Bw w P:=by
 obtain ⟨m0,I,E,L,M⟩:=A;simp only at m0 I E L M;obtain ⟨Z,K,k,D,B,n,R⟩:∃ Z,Hid (Z=((w.alloc (.cells #[.slice am nm mcap,.slice (some ⟨l,y,none⟩) N f] 25)).alloc (instO 14 d a b c)).alloc (.cells #[I4 0,U8 0,U8 0,I4 0] 153))/\Box Z (w.heap.size+1) 14 d a b c/\BxT Z (w.heap.size+1+1) 0 Ty.nil/\Z.cell? ⟨w.heap.size,0,none⟩=some (.slice am nm mcap)/\Bw w Z/\Z.heap.size=w.heap.size+3 :=
  ⟨_,rfl,⟨by go_cell,by go_cell,by go_cell,by go_cell,by go_cell⟩,qBt _ _ (by simp),by go_cell,by go_grown,by simp⟩
 have Y:Hid (SeesT Z (.slice (some ⟨sb,o,none⟩) 8 g) s):=u.below n;have O:sb<w.heap.size:=(u.at8 Q (r:=0) (by omega)).2.1
 have J:¬ sb=w.heap.size+1+1:=by omega
 have G:¬ w.heap.size+1+1=sb:=by omega
 clear u
 have X:c<(nm:Int):=by omega
 go_enter Tryz.func52,Tryz.ntmps52
 go_wp2_with (go_at_call 86;rw [<- K.out];go_must (refine (qBd _ _ _ _ _ _).mono ?_);rintro e w1 ⟨rfl,i⟩;rw [z.out];go_must (have T:=i.size;have U:=(i.cell (p:=⟨w.heap.size,0,none⟩) (show w.heap.size<Z.heap.size by omega)).trans B;obtain ⟨x0,x1,x2,x3,x4⟩:=Box.below k i (by omega)))
 go_ret;exact ⟨rfl,n.trans (i.mono (by omega))⟩
theorem asks_exit_no (am:Option Addr)(nm mcap:Nat)(l A N c p:Nat)(d a b i:Int)(sb y g:Nat)(s:St)(Q:Value)(w:World)(a4:l<w.heap.size)(D:At w l (A+p*5) ⟨22,d,a,b,i⟩)(a8:p<N)(hN:N<=c)(ac:c<=9223372036854775807)(z:SeesT w (.slice (some ⟨sb,y,none⟩) 8 g) s)(J:s.length=8)(B:Hid (sourceB 22 d a b i=false))(R:0<=a/\a<=7)(ak T ah I:Int)(L:Hid (regT s a=⟨ak,T,ah,I⟩))(hk:¬ ak=1) :
  Cl 52 #[.agg #[.slice am nm mcap,.slice (some ⟨l,A,none⟩) N c],I4 p,.slice (some ⟨sb,y,none⟩) 8 g,Q] w fun e X=>e=.returned (I4 33)/\Bw w X:=by
 obtain ⟨an,rfl⟩:=Int.eq_ofNat_of_zero_le R.1
 have E:an<8:=by omega
 have a6:(an:Int)<8:=by omega
 have a3:(0:Int)<=an:=by omega
 obtain ⟨m0,U,O,m3,m4⟩:=D;simp only at m0 U O m3 m4;obtain ⟨Z,HZ,k,K,F,u,a2⟩:∃ Z,Hid (Z=((w.alloc (.cells #[.slice am nm mcap,.slice (some ⟨l,A,none⟩) N c] 25)).alloc (instO 22 d an b i)).alloc (.cells #[I4 0,U8 0,U8 0,I4 0] 153))/\Box Z (w.heap.size+1) 22 d an b i/\BxT Z (w.heap.size+1+1) 0 Ty.nil/\Z.cell? ⟨w.heap.size,0,none⟩=some (.slice am nm mcap)/\Bw w Z/\Z.heap.size=w.heap.size+3 :=
  ⟨_,rfl,⟨by go_cell,by go_cell,by go_cell,by go_cell,by go_cell⟩,qBt _ _ (by simp),by go_cell,by go_grown,by simp⟩
 have G:Hid (SeesT Z (.slice (some ⟨sb,y,none⟩) 8 g) s):=z.below u;have a0:sb<w.heap.size:=(z.at8 J (r:=0) (by omega)).2.1
 have V:¬ sb=w.heap.size+1+1:=by omega
 have S:¬ w.heap.size+1+1=sb:=by omega
 clear z
 have a9:(ak != 1)=true:=by simp [hk]
 go_enter Tryz.func52,Tryz.ntmps52
 go_wp2_with (go_at_call 86;rw [<- HZ.out];go_must (refine (qBd _ _ _ _ _ _).mono ?_);rintro e w1 ⟨rfl,f⟩;rw [B.out];go_must (have a5:=f.size;have a7:=(f.cell (p:=⟨w.heap.size,0,none⟩) (show w.heap.size<Z.heap.size by omega)).trans F;obtain ⟨x0,x1,x2,x3,x4⟩:=Box.below k f (by omega);(obtain ⟨o,a1,aa,ab⟩:=(G.out.below f).at8 J E);(have n:=L.out);(rw [show regT s (an:Int)=s.getD an Ty.nil from rfl] at n);(rw [n] at o);obtain ⟨g0,P,Y,M⟩:=o;simp only at g0 P Y M))
 go_ret;exact ⟨rfl,u.trans (f.mono (by omega))⟩
theorem asks_exit_yes (am:Option Addr)(nm mcap:Nat)(l A N c p:Nat)(d a b i:Int)(sb y g:Nat)(s:St)(Q:Value)(w:World)(a4:l<w.heap.size)(D:At w l (A+p*5) ⟨22,d,a,b,i⟩)(a8:p<N)(hN:N<=c)(ab:c<=9223372036854775807)(z:SeesT w (.slice (some ⟨sb,y,none⟩) 8 g) s)(J:s.length=8)(B:Hid (sourceB 22 d a b i=false))(R:0<=a/\a<=7)(ak T ah I:Int)(L:Hid (regT s a=⟨ak,T,ah,I⟩))(hk:ak=1) :
  Cl 52 #[.agg #[.slice am nm mcap,.slice (some ⟨l,A,none⟩) N c],I4 p,.slice (some ⟨sb,y,none⟩) 8 g,Q] w fun e X=>e=.returned (I4 0)/\Bw w X:=by
 obtain ⟨an,rfl⟩:=Int.eq_ofNat_of_zero_le R.1
 have E:an<8:=by omega
 have a6:(an:Int)<8:=by omega
 have a3:(0:Int)<=an:=by omega
 obtain ⟨m0,U,O,m3,m4⟩:=D;simp only at m0 U O m3 m4;obtain ⟨Z,HZ,k,K,F,u,a2⟩:∃ Z,Hid (Z=((w.alloc (.cells #[.slice am nm mcap,.slice (some ⟨l,A,none⟩) N c] 25)).alloc (instO 22 d an b i)).alloc (.cells #[I4 0,U8 0,U8 0,I4 0] 153))/\Box Z (w.heap.size+1) 22 d an b i/\BxT Z (w.heap.size+1+1) 0 Ty.nil/\Z.cell? ⟨w.heap.size,0,none⟩=some (.slice am nm mcap)/\Bw w Z/\Z.heap.size=w.heap.size+3 :=
  ⟨_,rfl,⟨by go_cell,by go_cell,by go_cell,by go_cell,by go_cell⟩,qBt _ _ (by simp),by go_cell,by go_grown,by simp⟩
 have G:Hid (SeesT Z (.slice (some ⟨sb,y,none⟩) 8 g) s):=z.below u;have a0:sb<w.heap.size:=(z.at8 J (r:=0) (by omega)).2.1
 have V:¬ sb=w.heap.size+1+1:=by omega
 have S:¬ w.heap.size+1+1=sb:=by omega
 clear z;subst hk;go_enter Tryz.func52,Tryz.ntmps52
 go_wp2_with (go_at_call 86;rw [<- HZ.out];go_must (refine (qBd _ _ _ _ _ _).mono ?_);rintro e w1 ⟨rfl,f⟩;rw [B.out];go_must (have a5:=f.size;have a7:=(f.cell (p:=⟨w.heap.size,0,none⟩) (show w.heap.size<Z.heap.size by omega)).trans F;obtain ⟨x0,x1,x2,x3,x4⟩:=Box.below k f (by omega);(obtain ⟨o,a1,a9,aa⟩:=(G.out.below f).at8 J E);(have n:=L.out);(rw [show regT s (an:Int)=s.getD an Ty.nil from rfl] at n);(rw [n] at o);obtain ⟨g0,P,Y,M⟩:=o;simp only at g0 P Y M))
 go_ret;exact ⟨rfl,u.trans (f.mono (by omega))⟩
theorem args_len9 (h:Int):(argsL h).length<=3:=by
 unfold argsL
 repeat' split
 all_goals simp
theorem sizeT9 (w:World):(Go.sizeOf 153).run Tryz.prog w=.ok 4 w:=by
 simp [Go.sizeOf]
 rfl
theorem run_midT {t e:TypeId}(f:Tryz.prog.underlying t=some (.slice e))(c:∀ w,(Go.sizeOf e).run Tryz.prog w=.ok 4 w)(a:Option Addr)(b cap l h:Nat)(i:l<=h)(g:h<=cap)(w:World) :
  (Instr.slice t (.slice a b cap) (some (I4 l)) (some (I4 h)) none).run Tryz.prog w=.ok (cutT a l h cap) w:=by
 have h0:(l:Int)<=(h:Int):=by omega
 have d:(h:Int)<=(cap:Int):=by omega
 simp [Instr.slice,run_underlying f,Instr.sliceBounds,run_sliceBound,h0,d,c,cutT]
theorem hrcheck_as9 {h:Int}{v:Value}{xs:List Ty}{w:World}(c:SeesT w v xs){r:Int}(b:Hid (r=hcheckL h xs)):Cl 89 #[I4 h,v] w fun e a=>e=.returned (I4 r)/\Bw w a:=by
 rw [b.out];exact hrcheck_any h v xs w c
theorem asks_call (am:Option Addr)(nm mcap:Nat)(D K N i p:Nat)(d a b f:Int)(sb k c:Nat)(s:St)(vh:Value)(w:World)(a9:D<w.heap.size)(T:At w D (K+p*5) ⟨21,d,a,b,f⟩)(aa:p<N)(hN:N<=i)(af:i<=9223372036854775807)(O:SeesT w (.slice (some ⟨sb,k,none⟩) 8 c) s)(Q:s.length=8)(M:Hid (sourceB 21 d a b f=false)) :
  Cl 52 #[.agg #[.slice am nm mcap,.slice (some ⟨D,K,none⟩) N i],I4 p,.slice (some ⟨sb,k,none⟩) 8 c,vh] w fun e P=>e=.returned (I4 (hcheckL f ((s.drop 1).take (argsL f).length)))/\Bw w P:=by
 obtain ⟨m0,m1,m2,m3,m4⟩:=T;simp only at m0 m1 m2 m3 m4;obtain ⟨Z,HZ,u,a1,ad,F,a7⟩:∃ Z,Hid (Z=((w.alloc (.cells #[.slice am nm mcap,.slice (some ⟨D,K,none⟩) N i] 25)).alloc (instO 21 d a b f)).alloc (.cells #[I4 0,U8 0,U8 0,I4 0] 153))/\Box Z (w.heap.size+1) 21 d a b f/\BxT Z (w.heap.size+1+1) 0 Ty.nil/\Z.cell? ⟨w.heap.size,0,none⟩=some (.slice am nm mcap)/\Bw w Z/\Z.heap.size=w.heap.size+3 :=
  ⟨_,rfl,⟨by go_cell,by go_cell,by go_cell,by go_cell,by go_cell⟩,qBt _ _ (by simp),by go_cell,by go_grown,by simp⟩
 have G:Hid (SeesT Z (.slice (some ⟨sb,k,none⟩) 8 c) s):=O.below F;have a5:sb<w.heap.size:=(O.at8 Q (r:=0) (by omega)).2.1
 have a4:¬ sb=w.heap.size+1+1:=by omega
 have a3:¬ w.heap.size+1+1=sb:=by omega
 clear O;obtain ⟨_,_,ac,ae⟩:=G.out.at8 Q (r:=0) (by omega);obtain ⟨n,J⟩:∃ n,Hid ((argsL f).length=n):=⟨_,rfl⟩
 have a6:n<=3:=by rw [<- J.out];exact args_len9 _
 rw [J.out];obtain ⟨r,S⟩:∃ r,Hid (r=hcheckL f ((s.drop 1).take n)):=⟨_,rfl⟩;rw [<- S.out]
 have a8:IntKind.i64.wrap (1+(n:Int))=1+(n:Int):=by rw [IntKind.wrap_i64];omega
 have ab:∀ g:World,(Instr.slice 124 (.slice (some ⟨sb,k,none⟩) 8 c) (some (I4 1)) (some (I4 (1+(n:Int)))) none).run Tryz.prog g=.ok (cutT (some ⟨sb,k,none⟩) 1 (1+n) c) g:=fun g=>by
  have:=run_midT Tryz.underlying124 sizeT9 (some ⟨sb,k,none⟩) 8 c 1 (1+n) (by omega) (by omega) g
  simpa using this
 have L:Hid (∀ g,SeesT g (.slice (some ⟨sb,k,none⟩) 8 c) s->SeesT g (cutT (some ⟨sb,k,none⟩) 1 (1+n) c) ((s.drop 1).take n)):=fun g hx=>by
  have:=SeesT.cut (xs:=s) (a:=some ⟨sb,k,none⟩) (cap:=c) (w:=g) (by rw [Q];exact hx) 1 (1+n) c (by omega) (by omega) (by omega) (Nat.le_refl _);rw [List.drop_take] at this
  simpa using this
 go_enter Tryz.func52,Tryz.ntmps52
 go_wp2_with (first
  | (go_at_call 86;rw [<- HZ.out];go_must (refine (qBd _ _ _ _ _ _).mono ?_);rintro e w1 ⟨rfl,z⟩;rw [M.out];go_must (have U:=z.size;obtain ⟨X,x1,Y,V,B⟩:=Box.below u z (by omega)))
  | (go_at_call 88;go_must (refine (rargs_any f _).mono ?_);rintro e y ⟨u2,rfl,l,E⟩;go_must (have o:Bw Z y:=z.trans (E.mono U);have a0:=o.size;rw [J.out] at l;obtain ⟨a2,c2,rfl⟩:=own_shapeT l;clear X x1 Y V B l;obtain ⟨X,x1,Y,V,B⟩:=Box.below u o (by omega);clear E)))
 go_region_held3 (fun P=>P.cell? ⟨w.heap.size+1,4,none⟩=some (I4 f))
  (first|(with_reducible exact y4)|exact B)
  (first
   | (go_at_call 89;refine (hrcheck_as9 (w:=y.drew) (L.out y (G.out.below o)) S).mono ?_;rintro e w3 ⟨rfl,A⟩;(have I:Bw y w3:=qAf A);(have R:Bw Z w3:=o.trans (I.mono a0));(have y4:=(I.cell (p:=⟨w.heap.size+1,4,none⟩) (show w.heap.size+1<y.heap.size by omega)).trans B);clear A))
 go_wp2;go_ret;exact ⟨rfl,F.trans (R.mono (by omega))⟩
theorem asks_loop_no (am:Option Addr)(nm mcap:Nat)(n A N c p:Nat)(d a b i:Int)(sb z f:Nat)(s:St)(head:St)(E J k:Nat)(w:World)(a4:n<w.heap.size)(F:At w n (A+p*5) ⟨20,d,a,b,i⟩)(a8:p<N)(hN:N<=c)(ad:c<=9223372036854775807)(D:SeesT w (.slice (some ⟨sb,z,none⟩) 8 f) s)(L:s.length=8)(he:SeesT w (.slice (some ⟨E,J,none⟩) 8 k) head)(a6:head.length=8)(B:Hid (sourceB 20 d a b i=false))(S:0<=a/\a<=7)(ak U ah G:Int)(O:Hid (regT s a=⟨ak,U,ah,G⟩))(hk:¬ ak=1) :
  Cl 52 #[.agg #[.slice am nm mcap,.slice (some ⟨n,A,none⟩) N c],I4 p,.slice (some ⟨sb,z,none⟩) 8 f,.slice (some ⟨E,J,none⟩) 8 k] w fun e w'=>e=.returned (I4 33)/\Bw w w':=by
 obtain ⟨an,rfl⟩:=Int.eq_ofNat_of_zero_le S.1
 have I:an<8:=by omega
 have a7:(an:Int)<8:=by omega
 have a3:(0:Int)<=an:=by omega
 obtain ⟨m0,V,Q,m3,m4⟩:=F;simp only at m0 V Q m3 m4;obtain ⟨Z,HZ,l,M,ab,y,a2⟩:∃ Z,Hid (Z=((w.alloc (.cells #[.slice am nm mcap,.slice (some ⟨n,A,none⟩) N c] 25)).alloc (instO 20 d an b i)).alloc (.cells #[I4 0,U8 0,U8 0,I4 0] 153))/\Box Z (w.heap.size+1) 20 d an b i/\BxT Z (w.heap.size+1+1) 0 Ty.nil/\Z.cell? ⟨w.heap.size,0,none⟩=some (.slice am nm mcap)/\Bw w Z/\Z.heap.size=w.heap.size+3 :=
  ⟨_,rfl,⟨by go_cell,by go_cell,by go_cell,by go_cell,by go_cell⟩,qBt _ _ (by simp),by go_cell,by go_grown,by simp⟩
 have K:Hid (SeesT Z (.slice (some ⟨sb,z,none⟩) 8 f) s):=D.below y;have a0:sb<w.heap.size:=(D.at8 L (r:=0) (by omega)).2.1
 have X:¬ sb=w.heap.size+1+1:=by omega
 have T:¬ w.heap.size+1+1=sb:=by omega
 clear D
 have a9:(ak != 1)=true:=by simp [hk]
 go_enter Tryz.func52,Tryz.ntmps52
 go_wp2_with (go_at_call 86;rw [<- HZ.out];go_must (refine (qBd _ _ _ _ _ _).mono ?_);rintro e w1 ⟨rfl,g⟩;rw [B.out];go_must (have a5:=g.size;obtain ⟨x0,x1,x2,x3,x4⟩:=Box.below l g (by omega);(obtain ⟨u,a1,aa,ac⟩:=(K.out.below g).at8 L I);(have o:=O.out);(rw [show regT s (an:Int)=s.getD an Ty.nil from rfl] at o);(rw [o] at u);obtain ⟨g0,R,Y,P⟩:=u;simp only at g0 R Y P))
 go_ret;exact ⟨rfl,y.trans (g.mono (by omega))⟩
theorem asks_loop (am:Option Addr)(nm mcap:Nat)(cb co N o p:Nat)(d a b G:Int)(sb f D:Nat)(s:St)(head:St)(l g z:Nat)(w:World)(ax:cb<w.heap.size)(ac:At w cb (co+p*5) ⟨20,d,a,b,G⟩)(b4:p<N)(hN:N<=o)(av:o<=9223372036854775807)(hs:SeesT w (.slice (some ⟨sb,f,none⟩) 8 D) s)(h8:s.length=8)(he:SeesT w (.slice (some ⟨l,g,none⟩) 8 z) head)(a9:head.length=8)(a4:Hid (sourceB 20 d a b G=false))(ha:0<=a/\a<=7)(ak al ah a7:Int)(HA:Hid (regT s a=⟨ak,al,ah,a7⟩))(hk:ak=1) :
  Cl 52 #[.agg #[.slice am nm mcap,.slice (some ⟨cb,co,none⟩) N o],I4 p,.slice (some ⟨sb,f,none⟩) 8 D,.slice (some ⟨l,g,none⟩) 8 z] w fun e c=>e=.returned (I4 (if fitsAll s head=true then 0 else 33))/\Bw w c:=by
 obtain ⟨an,rfl⟩:=Int.eq_ofNat_of_zero_le ha.1
 have ae:an<8:=by omega
 have ay:(an:Int)<8:=by omega
 have aw:(0:Int)<=an:=by omega
 obtain ⟨m0,m1,m2,m3,m4⟩:=ac;simp only at m0 m1 m2 m3 m4;obtain ⟨Z,HZ,Y,ag,az,F,b7⟩:∃ Z,Hid (Z=((w.alloc (.cells #[.slice am nm mcap,.slice (some ⟨cb,co,none⟩) N o] 25)).alloc (instO 20 d an b G)).alloc (.cells #[I4 0,U8 0,U8 0,I4 0] 153))/\Box Z (w.heap.size+1) 20 d an b G/\BxT Z (w.heap.size+1+1) 0 Ty.nil/\Z.cell? ⟨w.heap.size,0,none⟩=some (.slice am nm mcap)/\Bw w Z/\Z.heap.size=w.heap.size+3 :=
  ⟨_,rfl,⟨by go_cell,by go_cell,by go_cell,by go_cell,by go_cell⟩,qBt _ _ (by simp),by go_cell,by go_grown,by simp⟩
 have a3:Hid (SeesT Z (.slice (some ⟨sb,f,none⟩) 8 D) s):=hs.below F;have ao:sb<w.heap.size:=(hs.at8 h8 (r:=0) (by omega)).2.1
 have af:¬ sb=w.heap.size+1+1:=by omega
 have ai:¬ w.heap.size+1+1=sb:=by omega
 clear hs;subst hk;have a5:Hid (SeesT Z (.slice (some ⟨l,g,none⟩) 8 z) head):=he.below F;obtain ⟨A,B⟩:∃ A:Int,Hid (A=if fitsAll s head=true then 0 else 33):=⟨_,rfl⟩;rw [<- B.out];clear he;go_enter Tryz.func52,Tryz.ntmps52
 go_wp2_with (go_at_call 86;rw [<- HZ.out];go_must (refine (qBd _ _ _ _ _ _).mono ?_);rintro e w1 ⟨rfl,E⟩;rw [a4.out];go_must (have a8:=E.size;obtain ⟨x0,x1,x2,x3,x4⟩:=Box.below Y E (by omega);(obtain ⟨a2,b2,b5,b1⟩:=(a3.out.below E).at8 h8 ae);(have a1:=HA.out);(rw [show regT s (an:Int)=s.getD an Ty.nil from rfl] at a1);(rw [a1] at a2);obtain ⟨g0,g1,g2,g3⟩:=a2;simp only at g0 g1 g2 g3))
 go_loopw [13] (fun i wr=>∃ r:Nat,r<=8/\i=I4 r/\Hid ((List.range r).all (fun r=>fitsJ (s.getD r Ty.nil) (head.getD r Ty.nil))=true)/\Bw w1 wr) (fun i _=>8-(intOf i).toNat)
 case atStart=>exact ⟨0,by omega,rfl,rfl,Below.refl _ _⟩
 case round =>
  obtain ⟨r,ar,rfl,HQ,V⟩:=hrel;have aa:=V.size;have y:Bw Z wr:=E.trans (V.mono a8)
  by_cases hlt:r<8
  ·have au:(r:Int)<8:=by omega
   have b3:(0:Int)<=r:=by omega
   obtain ⟨T,S,aj,ap⟩:=(a3.out.below y).at8 h8 hlt;obtain ⟨R,a0,b6,aq⟩:=(a5.out.below y).at8 a9 hlt;obtain ⟨Q,P,M,I,HS⟩:∃ k lo hi m,Hid (s.getD r Ty.nil=⟨k,lo,hi,m⟩):=⟨_,_,_,_,rfl⟩;obtain ⟨O,J,K,L,HE⟩:∃ k lo hi m,Hid (head.getD r Ty.nil=⟨k,lo,hi,m⟩):=⟨_,_,_,_,rfl⟩;rw [HS.out] at T;rw [HE.out] at R;have X:At2 wr sb (f+r*4) ⟨Q,P,M,I⟩ l (g+r*4) ⟨O,J,K,L⟩:=⟨T,R⟩;obtain ⟨q,HF⟩:∃ q,Hid (q=fitsJ ⟨Q,P,M,I⟩ ⟨O,J,K,L⟩):=⟨_,rfl⟩
   have HN:Hid (fitsJ (s.getD r Ty.nil) (head.getD r Ty.nil)=q):=by show _=_;rw [HS.out,HE.out,HF.out]
   clear T R x0 x1 x2 x3 x4 g0 g1 g2 g3
   cases q
   ·have ad:Hid (fitsAll s head=false):=by
     show _=_
     unfold fitsAll;rw [List.all_eq_false];exact ⟨r,List.mem_range.2 hlt,by rw [HN.out];simp⟩
    go_wp2
    go_region_held3 (fun c=>(c.cell? ⟨sb,f+r*4,none⟩=some (I4 Q)/\c.cell? ⟨sb,f+r*4+1,none⟩=some (U8 P)/\c.cell? ⟨sb,f+r*4+2,none⟩=some (U8 M)/\c.cell? ⟨sb,f+r*4+3,none⟩=some (I4 I))/\c.cell? ⟨l,g+r*4,none⟩=some (I4 O)/\c.cell? ⟨l,g+r*4+1,none⟩=some (U8 J)/\c.cell? ⟨l,g+r*4+2,none⟩=some (U8 K)/\c.cell? ⟨l,g+r*4+3,none⟩=some (I4 L))
     (first|(with_reducible exact U)|exact X)
     (first
      | (go_at_call 90;refine (jfits_as (a:=⟨Q,P,M,I⟩) (b:=⟨O,J,K,L⟩) HF wr.drew).mono ?_;rintro e w2 ⟨rfl,n⟩;(have u:Bw wr w2:=qAf n);have U:=At2.below X u S a0;clear n))
    go_wp2;go_ret;exact ⟨reti (by rw [B.out,ad.out];rfl),F.trans ((y.trans (u.mono y.size)).mono (by omega))⟩
   ·have ab:Hid ((List.range (r+1)).all (fun r=>fitsJ (s.getD r Ty.nil) (head.getD r Ty.nil))=true):=by
     show _=_
     rw [List.range_succ,List.all_append,HQ.out];simp only [List.all_cons,List.all_nil,HN.out,Bool.and_true]
    go_wp2
    go_region_held3 (fun c=>(c.cell? ⟨sb,f+r*4,none⟩=some (I4 Q)/\c.cell? ⟨sb,f+r*4+1,none⟩=some (U8 P)/\c.cell? ⟨sb,f+r*4+2,none⟩=some (U8 M)/\c.cell? ⟨sb,f+r*4+3,none⟩=some (I4 I))/\c.cell? ⟨l,g+r*4,none⟩=some (I4 O)/\c.cell? ⟨l,g+r*4+1,none⟩=some (U8 J)/\c.cell? ⟨l,g+r*4+2,none⟩=some (U8 K)/\c.cell? ⟨l,g+r*4+3,none⟩=some (I4 L))
     (first|(with_reducible exact U)|exact X)
     (first
      | (go_at_call 90;refine (jfits_as (a:=⟨Q,P,M,I⟩) (b:=⟨O,J,K,L⟩) HF wr.drew).mono ?_;rintro e w2 ⟨rfl,n⟩;(have u:Bw wr w2:=qAf n);have U:=At2.below X u S a0;clear n))
    go_wp2
    go_roundw
    case rel=>exact ⟨r+1,by omega,by go_num,ab,V.trans (u.mono aa)⟩
    case measure=>simp [intOf];omega
  ·obtain rfl:r=8:=by omega
   have a6:Hid (fitsAll s head=true):=HQ;go_wp2;go_ret;exact ⟨reti (by rw [B.out,a6.out];rfl),F.trans (y.mono (by omega))⟩
theorem asks_any (am:Option Addr)(nm mcap:Nat)(vc vs A:Value)(xs:List In)(p:Nat)(s head:St)(w:World)(hc:SeesI w vc xs)(y:p<xs.length)(hs:SeesT w vs s)(u:s.length=8)(S:(nth xs p).right=true)(hh:(nth xs p).op=20->SeesT w A head/\head.length=8) :
  Cl 52 #[.agg #[.slice am nm mcap,vc],I4 p,vs,A] w fun e w'=>e=.returned (I4 (asksJ nm (nth xs p) s head))/\Bw w w':=by
 obtain ⟨a1,cap,rfl,g,a4,_,Y⟩:=hc;obtain ⟨D,B,rfl,o,a5⟩:=Y (fun e=>by rw [e] at y;simp at y);obtain ⟨a2,f,rfl,a6,a7,a9,X⟩:=id hs;obtain ⟨sb,z,rfl,a8,_⟩:=X (fun e=>by rw [e] at u;simp at u);have hA:=a5 p y;unfold maxLen at a4
 have r:SeesT w (.slice (some ⟨sb,z,none⟩) 8 f) s:=by have:=hs;rw [u] at this;exact this
 rw [u];have a0:xs.getD p In.nil=nth xs p:=rfl;rw [a0] at hA;have h0:0<=(nth xs p).op/\(nth xs p).op<=22:=qBp S
 generalize nth xs p=i at *
 obtain ⟨op,d,a,b,l⟩:=i;simp only at h0 hh;obtain ⟨F,N,I,L,M⟩:∃ k lo hi m,Hid (srcT ⟨op,d,a,b,l⟩ s=⟨k,lo,hi,m⟩):=⟨_,_,_,_,rfl⟩;obtain ⟨ak,Q,R,G,J⟩:∃ k lo hi m,Hid (regT s a=⟨k,lo,hi,m⟩):=⟨_,_,_,_,rfl⟩
 have c:cap<=9223372036854775807:=by omega
 have T:(op<=12∨(16<=op/\op<=19))->srcA ⟨op,d,a,b,l⟩ s=⟨F,N,I,L⟩:=fun h=>by unfold srcA;rw [if_pos (qBs S h).1,M.out]
 have O:¬ (op<=12∨(16<=op/\op<=19))->Hid (sourceB op d a b l=false):=fun h=>by show _=_;unfold sourceB jumpB;simp;intro _;omega
 unfold asksJ;simp only
 by_cases c0:op=0
 ·subst c0;have n:=qBs S (.inl (show (0:Int)<=12 by decide));rw [if_pos rfl,T (.inl (by decide))]
  by_cases k0:F=0
  ·rw [if_pos k0];exact asks_set_no _ D B xs.length cap p d a b l sb z f s A w o hA y g c r u n.2 n.1 F N I L M k0
  ·rw [if_neg k0];exact asks_set_yes _ D B xs.length cap p d a b l sb z f s A w o hA y g c r u n.2 n.1 F N I L M k0
 rw [if_neg c0]
 by_cases c1:op=13∨op=15
 ·rw [if_pos c1];have K:=O (by omega)
  rcases c1 with rfl|rfl
  ·exact asks_field am nm mcap D B xs.length cap p d a b l sb z f s A w o hA y g c r u K
  ·exact asks_jump am nm mcap D B xs.length cap p d a b l sb z f s A w o hA y g c r u K
 rw [if_neg c1]
 by_cases c2:op=14
 ·subst c2;have K:=O (by omega);rw [if_pos rfl]
  by_cases k0:(nm:Int)<=l
  ·rw [if_pos k0];exact asks_map_no am nm mcap D B xs.length cap p d a b l sb z f s A w o hA y g c r u K k0
  ·rw [if_neg k0];exact asks_map_yes am nm mcap D B xs.length cap p d a b l sb z f s A w o hA y g c r u K k0
 rw [if_neg c2]
 by_cases c3:op=21
 ·subst c3;rw [if_pos rfl];exact asks_call am nm mcap D B xs.length cap p d a b l sb z f s A w o hA y g c r u (O (by omega))
 rw [if_neg c3]
 by_cases c4:op=11
 ·subst c4;have n:=qBs S (.inl (show (11:Int)<=12 by decide));rw [if_pos rfl,T (.inl (by decide))]
  by_cases k0:F=1
  ·rw [if_neg (by simpa using k0)]
   by_cases k1:15<I
   ·rw [if_pos k1];exact asks_load_far _ D B xs.length cap p d a b l sb z f s A w o hA y g c r u n.2 n.1 F N I L M k0 k1
   ·rw [if_neg k1];exact asks_load_yes _ D B xs.length cap p d a b l sb z f s A w o hA y g c r u n.2 n.1 F N I L M k0 k1
  ·rw [if_pos k0];exact asks_load_no _ D B xs.length cap p d a b l sb z f s A w o hA y g c r u n.2 n.1 F N I L M k0
 rw [if_neg c4]
 by_cases c5:op=20
 ·subst c5;have E:=qBn S (.inr (.inr (.inl (show (16:Int)<=20/\(20:Int)<=20 by decide))));obtain ⟨Z,P⟩:=hh rfl;obtain ⟨a3,U,rfl,ab,aa,_,V⟩:=id Z;obtain ⟨eb,eo,rfl,_,_⟩:=V (fun e=>by rw [e] at P;simp at P)
  have he:SeesT w (.slice (some ⟨eb,eo,none⟩) 8 U) head:=by have:=Z;rw [P] at this;exact this
  have K:=O (by omega);rw [if_pos rfl,J.out,P]
  by_cases k0:ak=1
  ·rw [if_neg (by simpa using k0)];exact asks_loop am nm mcap D B xs.length cap p d a b l sb z f s head eb eo U w o hA y g c r u he P K E ak Q R G J k0
  ·rw [if_pos k0];exact asks_loop_no am nm mcap D B xs.length cap p d a b l sb z f s head eb eo U w o hA y g c r u he P K E ak Q R G J k0
 rw [if_neg c5]
 by_cases c6:op=22
 ·subst c6;have E:=qBn S (.inr (.inr (.inr rfl)));have K:=O (by omega);rw [if_pos rfl,J.out]
  by_cases k0:ak=1
  ·rw [if_neg (by simpa using k0)];exact asks_exit_yes am nm mcap D B xs.length cap p d a b l sb z f s A w o hA y g c r u K E ak Q R G J k0
  ·rw [if_pos k0];exact asks_exit_no am nm mcap D B xs.length cap p d a b l sb z f s A w o hA y g c r u K E ak Q R G J k0
 rw [if_neg c6]
 have c7:(1<=op/\op<=10)∨op=12∨(16<=op/\op<=19):=by omega
 have n:=qBs S (show op<=12∨(16<=op/\op<=19) by omega);have E:=qBn S (show (1<=op/\op<=10)∨op=12∨(16<=op/\op<=20)∨op=22 by omega);rw [T (by omega),J.out]
 by_cases k0:ak=1
 case neg =>
  rw [if_pos (.inl k0)];exact asks_two_first _ D B xs.length cap p op d a b l sb z f s A w o hA y g c r u n.2 n.1 F N I L M c7 E ak Q R G J k0
 by_cases k1:F=1
 case neg =>
  rw [if_pos (.inr k1)];exact asks_two_second _ D B xs.length cap p op d a b l sb z f s A w o hA y g c r u n.2 n.1 F N I L M c7 E ak Q R G J k0 k1
 rw [if_neg (by simp [k0,k1])]
 by_cases c8:op=12
 ·subst c8
  by_cases k2:15<I
  ·rw [if_pos ⟨rfl,k2⟩];exact asks_store_far _ D B xs.length cap p d a b l sb z f s A w o hA y g c r u n.2 n.1 F N I L M E ak Q R G J k0 k1 k2
  ·rw [if_neg (fun h=>k2 h.2)];exact asks_store_yes _ D B xs.length cap p d a b l sb z f s A w o hA y g c r u n.2 n.1 F N I L M E ak Q R G J k0 k1 k2
 ·rw [if_neg (fun h=>c8 h.1)];exact asks_two_yes _ D B xs.length cap p op d a b l sb z f s A w o hA y g c r u n.2 n.1 F N I L M (by omega) E ak Q R G J k0 k1
end Go.Proofs.YtmdhljoicnommaaGreat
