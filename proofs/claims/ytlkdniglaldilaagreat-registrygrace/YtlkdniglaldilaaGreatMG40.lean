/-
  KW4Head
  KW4Maps
  KW4Inst
  KW4Code
  KW4Decode
-/
import Derived.Test.YtlkdniglaldilaaGreatMG30
import Derived.Test.YtlkdniglaldilaaGreatMG24
import Derived.Test.YtlkdniglaldilaaGreatMG25
import Derived.Test.YtlkdniglaldilaaGreatMG18
namespace Go.Proofs.YtlkdniglaldilaaGreat
open Go.RowKit
set_option linter.unusedVariables false
set_option maxRecDepth 100000
def rdM (w : World) (br : Nat) : Nat := match w.cell? ⟨br, 3, none⟩, w.cell? ⟨br, 1, none⟩ with
 | some (.int _ e), some (.int _ n) => if e = 0 then (4 - n).toNat + 1 else 0
 | _, _ => 0
theorem rdM_ok {w : World} {br : Nat} {v : Value} {p q : Int} (h : RdC w br v p q 0) : rdM w br = (4 - p).toNat + 1 := by
 obtain ⟨c0, c1, c2, c3⟩ := h.cells
 unfold rdM; rw [c1, c3]; simp
theorem rdM_bad {w : World} {br : Nat} {v : Value} {p q e : Int} (h : RdC w br v p q e) (he : e ≠ 0) : rdM w br = 0 := by
 obtain ⟨c0, c1, c2, c3⟩ := h.cells
 unfold rdM; rw [c1, c3]; simp [he]
theorem headR_short {xs : List Int} {k p : Nat} (h : xs.length <= p) : headR xs (k + 1) p = .error ((p : Int), 10) := by rw [headR, if_pos h]
theorem headR_other {xs : List Int} {k p : Nat} (h : p < xs.length) (hc : xs.getD p 0 ≠ headB_w p) : headR xs (k + 1) p = .error ((p : Int), 12) := by rw [headR, if_neg (by omega), if_pos hc]
theorem headR_more {xs : List Int} {k p : Nat} (h : p < xs.length) (hc : xs.getD p 0 = headB_w p) : headR xs (k + 1) p = headR xs k (p + 1) := by rw [headR, if_neg (by omega), if_neg (by simpa using hc)]

def HeadRel (xs : List Int) (s : St_w) : Prop := match s with | .ok p => p <= 3 /\ headR xs 3 0 = headR xs (3 - p) p | .error x => headR xs 3 0 = .error x

set_option maxHeartbeats 3200000 in
theorem head_any (br : Nat) (a : Option Addr) (cap : Nat) (xs : List Int) (w : World) (h : RdC w br (.slice a xs.length cap) 0 0 0) (hsee : Sees .u8 w (.slice a xs.length cap) xs) (hne : xs = [] ∨ (Value.slice a xs.length cap).ownBlock ≠ some br) :
  Calls Tryz.prog 59 #[rdP br] w fun x w' => x = .returned (.tuple #[]) /\ ∃ s', RdAt w' br (.slice a xs.length cap) xs.length s' /\ After (.ok 0) (headR xs 3) s' () /\ w.grownBy w' (some br) := by
 have hb := hsee.bytes
 have hcap : xs.length <= cap /\ cap <= 9223372036854775807 := by
  obtain ⟨a', cap', hv, h1, h2, _⟩ := hsee
  injection hv with _ _ e
  subst e
  exact ⟨h1, h2⟩
 obtain ⟨L, HL⟩ : ∃ L, Hid (L = xs.length) := ⟨_, rfl⟩
 rw [<- HL.out] at hsee hne h hcap ⊢
 have HS : Hid (∀ w', w.grownBy w' (some br) -> Sees .u8 w' (.slice a L cap) xs) := fun w' hg => hsee.kept hg hne
 obtain ⟨hc1, hc2⟩ := hcap
 have H0 : Hid (RdC w br (.slice a L cap) 0 0 0) := h
 clear hsee hne h
 go_enter Tryz.func59, Tryz.ntmps59
 go_wp2_with fail
 go_loopw [] (fun wr => ∃ s : St_w, RdAt wr br (.slice a L cap) L s /\ HeadRel xs s /\ w.grownBy wr (some br)) (fun wr => rdM wr br)
 case atStart => exact ⟨.ok 0, ⟨by omega, H0.out⟩, ⟨by omega, rfl⟩, grown_refl _ _⟩
 case round =>
  obtain ⟨s, hat, hrl, hgr⟩ := hrel
  cases s with
  | error x =>
   obtain ⟨q, e⟩ := x
   obtain ⟨he, z, hz⟩ := hat
   have HZ : Hid (RdC wr br (.slice a L cap) z q e) := hz
   obtain ⟨c0, c1, c2, c3⟩ := hz.cells
   have h0 : (e == 0) = false := by simpa using he
   have HH : Hid (headR xs 3 0 = .error (q, e)) := hrl
   clear hz hrl
   by_cases hz3 : z < 3
   ·go_wp2_with fail
    go_returns
    exact ⟨rfl, .error (q, e), ⟨he, z, HZ.out⟩, HH.out, hgr⟩
   ·go_wp2_with fail
    go_returns
    exact ⟨rfl, .error (q, e), ⟨he, z, HZ.out⟩, HH.out, hgr⟩
  | ok p =>
   obtain ⟨hp, hz⟩ := hat
   obtain ⟨hp3, hh⟩ := hrl
   have HZ : Hid (RdC wr br (.slice a L cap) p 0 0) := hz
   have f1 := hz.frozen 1
   obtain ⟨c0, c1, c2, c3⟩ := hz.cells
   have HH : Hid (headR xs 3 0 = headR xs (3 - p) p) := hh
   have HM : Hid (rdM wr br = (4 - (p : Int)).toNat + 1) := rdM_ok hz
   clear hz hh
   by_cases hlt3 : p < 3
   ·by_cases hlt : p < L
    ·obtain ⟨b, off, rfl, hcell⟩ : ∃ b off, a = some ⟨b, off, none⟩ /\ wr.cell? ⟨b, off + p, none⟩ = some (.int .u8 (xs.getD p 0)) := by
      obtain ⟨a', cap', hv, _, _, _, _, hs⟩ := HS.out wr hgr
      injection hv with e1
      subst e1
      obtain ⟨b, off, rfl, _, hc⟩ := hs (fun e => by rw [HL.out, e] at hlt; simp at hlt)
      exact ⟨b, off, rfl, hc p (by rw [<- HL.out]; exact hlt)⟩
     by_cases hcc : xs.getD p 0 = headB_w p
     ·have HN : Hid (headR xs 3 0 = headR xs (3 - (p + 1)) (p + 1)) := by
       show _ = _
       rw [HH.out, show 3 - p = (3 - (p + 1)) + 1 by omega, headR_more (by rw [<- HL.out]; exact hlt) hcc]
      have HR : Hid (∀ m (z : Int), RdC ((wr.drewN m).setCell ⟨br, 1, none⟩ (.int .i64 z)) br (.slice (some ⟨b, off, none⟩) L cap) z 0 0) := fun m z => RdC.set1 (w := wr.drewN m) HZ.out z
      rw [hcc] at hcell
      clear hcc HH HZ
      obtain e | e | e : p = 0 ∨ p = 1 ∨ p = 2 := by omega
      all_goals
       subst e
       simp [headB_w] at hcell
       go_wp2_with fail
       go_quiet (fail)
       go_wp2_with fail
       go_quiet (fail)
       go_wp2_with fail
       go_roundw
       case rel => exact ⟨.ok (_ + 1), ⟨by omega, HR.out _ _⟩, ⟨by omega, HN.out⟩, hgr.trans ((grown_drewN _ _ _).trans (grown_set_w _ ⟨br, 1, none⟩ _))⟩
       case measure => rw [HM.out, rdM_ok (HR.out _ _)]; omega
     ·have HN : Hid (headR xs 3 0 = .error ((p : Int), 12)) := by
       show _ = _
       rw [HH.out, show 3 - p = (3 - (p + 1)) + 1 by omega, headR_other (by rw [<- HL.out]; exact hlt) hcc]
      have HF : Hid (∀ m, Calls Tryz.prog 75 #[rdP br, .int .i64 p, .int .i64 12] (wr.drewN m) fun x w' => x = .returned (.tuple #[]) /\ RdC w' br (.slice (some ⟨b, off, none⟩) L cap) p p 12 /\ (wr.drewN m).grownBy w' (some br)) := fun m => fail_ok br _ p p 12 (wr.drewN m) HZ.out
      generalize xs.getD p 0 = c at *
      have hcn : (c != headB_w p) = true := by simpa using hcc
      clear HH HZ hcc
      obtain e | e | e : p = 0 ∨ p = 1 ∨ p = 2 := by omega
      all_goals
       subst e
       first
        | (have hcn : (c != ((((ByteArray.mk #[84, 80, 1])[0]'(by decide)).toNat : Nat) : Int)) = true := hcn)
        | (have hcn : (c != ((((ByteArray.mk #[84, 80, 1])[1]'(by decide)).toNat : Nat) : Int)) = true := hcn)
        | (have hcn : (c != ((((ByteArray.mk #[84, 80, 1])[2]'(by decide)).toNat : Nat) : Int)) = true := hcn)
       try simp at hcell
       go_wp2_with fail
       go_quiet (fail)
       go_wp2_with fail
       go_quiet (fail)
       go_wp2_with (go_at_call 75; go_must (refine (HF.out _).mono ?_); rintro e w' ⟨rfl, hr, hg2⟩)
       go_roundw
       case rel => exact ⟨.error (_, 12), ⟨by omega, _, hr⟩, HN.out, hgr.trans ((grown_drewN _ _ _).trans hg2)⟩
       case measure => rw [HM.out, rdM_bad hr (by omega)]; omega
    ·have HN : Hid (headR xs 3 0 = .error ((p : Int), 10)) := by
      show _ = _
      rw [HH.out, show 3 - p = (3 - (p + 1)) + 1 by omega, headR_short (by rw [<- HL.out]; omega)]
     have HF : Hid (∀ m, Calls Tryz.prog 75 #[rdP br, .int .i64 p, .int .i64 10] (wr.drewN m) fun x w' => x = .returned (.tuple #[]) /\ RdC w' br (.slice a L cap) p p 10 /\ (wr.drewN m).grownBy w' (some br)) := fun m => fail_ok br _ p p 10 (wr.drewN m) HZ.out
     clear HH HZ
     go_wp2_with fail
     go_quiet (fail)
     go_wp2_with (go_at_call 75; go_must (refine (HF.out _).mono ?_); rintro e w' ⟨rfl, hr, hg2⟩)
     go_roundw
     case rel => exact ⟨.error (_, 10), ⟨by omega, _, hr⟩, HN.out, hgr.trans ((grown_drewN _ _ _).trans hg2)⟩
     case measure => rw [HM.out, rdM_bad hr (by omega)]; omega
   ·obtain rfl : p = 3 := by omega
    go_wp2_with fail
    go_returns
    exact ⟨rfl, .ok 3, ⟨hp, HZ.out⟩, HH.out, hgr⟩

set_option maxHeartbeats 1600000 in
theorem end_any (br : Nat) (a : Option Addr) (cap : Nat) (xs : List Int) (s : St_w) (w : World) (h : RdAt w br (.slice a xs.length cap) xs.length s) (hm : cap <= 9223372036854775807) (hl : xs.length <= cap) :
  Calls Tryz.prog 62 #[rdP br] w fun x w' => x = .returned (.tuple #[]) /\ ∃ s', RdAt w' br (.slice a xs.length cap) xs.length s' /\ After s (endR xs) s' () /\ w.grownBy w' (some br) := by
 obtain ⟨L, HL⟩ : ∃ L, Hid (L = xs.length) := ⟨_, rfl⟩
 rw [<- HL.out] at h hl ⊢
 have H : Hid (RdAt w br (.slice a L cap) L s) := h
 obtain ⟨p, q, e, hz⟩ := h.open
 have HF : Hid (∀ m, Calls Tryz.prog 75 #[rdP br, .int .i64 p, .int .i64 13] (w.drewN m) fun x w' => x = .returned (.tuple #[]) /\ RdAt w' br (.slice a L cap) L (failS s p 13) /\ (w.drewN m).grownBy w' (some br)) := fun m => fail_any br _ L s p 13 (w.drewN m) (h.kept (grown_drewN w m none) (by simp)) (by omega)
 obtain ⟨c0, c1, c2, c3⟩ := hz.cells
 have HZ : Hid (RdC w br (.slice a L cap) p q e) := hz
 have HP : Hid (∀ k, s = .ok k -> p = (k : Int) /\ k <= L) := fun k hk => by
  subst hk
  have h2 := h.2
  unfold RdC at h2 hz
  rw [h2] at hz
  injection hz with hz
  injection hz with hz
  have := congrArg (fun (x : Array Value) => x[1]?) hz
  simp at this
  exact ⟨this.symm, h.1⟩
 clear h hz
 by_cases hlt : p < (L : Int)
 ·go_enter Tryz.func62, Tryz.ntmps62
  go_wp2_with fail
  go_quiet (fail)
  go_wp2_with (go_at_call 75; go_must (refine (HF.out _).mono ?_); rintro e w' ⟨rfl, hr, hg2⟩)
  go_returns
  refine ⟨rfl, failS s p 13, hr, ?_, (grown_drewN _ _ _).trans hg2⟩
  cases s with
  | error x => rfl
  | ok k =>
   have hk := HP.out k rfl
   show endR xs k = .error (p, 13)
   rw [endR, if_pos (by rw [<- HL.out]; omega), hk.1]
 ·go_enter Tryz.func62, Tryz.ntmps62
  go_wp2_with fail
  go_quiet (fail)
  go_wp2_with fail
  go_returns
  refine ⟨rfl, s, H.out.kept (grown_drewN _ _ none) (by simp), ?_, grown_drewN _ _ _⟩
  cases s with
  | error x => rfl
  | ok k =>
   have hk := HP.out k rfl
   show endR xs k = .ok ((), k)
   rw [endR, if_neg (by rw [<- HL.out]; omega)]
def Till {α : Type} (s1 : St_w) (f : Nat -> Rd α) (s' : St_w) (g : Nat -> Rd α) : Prop := match s1 with
 | .error x => s' = .error x
 | .ok p1 => match s' with | .ok p' => f p1 = g p' | .error x => f p1 = .error x
theorem Till.refl {α : Type} (s : St_w) (f : Nat -> Rd α) : Till s f s f := by
 cases s with
 | error x => rfl
 | ok p => rfl
theorem Till.done {α : Type} {s1 s' : St_w} {f g : Nat -> Rd α} {a : α} (h : Till s1 f s' g) (hg : ∀ p, g p = .ok (a, p)) : After s1 f s' a := by
 cases s1 with
 | error x => exact h
 | ok p =>
  cases s' with
  | error x => exact h
  | ok p' => exact (show f p = .ok (a, p') from (show f p = g p' from h).trans (hg p'))
theorem maps_step {s1 s' s2 : St_w} {f : Nat -> Rd (List Int)} {xs ms : List Int} {k : Nat} {n q : Int} (h : Till s1 f s' (mapsR xs (k + 1) ms)) (ha : After s' (numR xs 3 12) s2 n) (hq : ∀ p, s' = .ok p -> q = (p : Int)) (b : Bool) (hb : memB_w ms n = b) :
  Till s1 f (if b = true then failS s2 q 12 else s2) (mapsR xs k (ms ++ [n])) := by
 cases s1 with
 | error x =>
  have h : s' = .error x := h
  subst h
  have ha : s2 = .error x := ha
  subst ha
  show (if b = true then failS (.error x) q 12 else .error x) = .error x
  cases b <;> rfl
 | ok p1 =>
  cases s' with
  | error x =>
   have ha : s2 = .error x := ha
   subst ha
   have e : (if b = true then failS (.error x) q 12 else (.error x : St_w)) = .error x := by cases b <;> rfl
   rw [e]; exact h
  | ok p' =>
   have h : f p1 = mapsR xs (k + 1) ms p' := h
   have hq := hq p' rfl
   rw [mapsR] at h
   cases s2 with
   | error x =>
    have ha : numR xs 3 12 p' = .error x := ha
    have e : (if b = true then failS (.error x) q 12 else (.error x : St_w)) = .error x := by cases b <;> rfl
    rw [e]
    show f p1 = .error x
    rw [h, ha]; rfl
   | ok p2 =>
    have ha : numR xs 3 12 p' = .ok (n, p2) := ha
    rw [ha] at h
    have h : f p1 = if n ∈ ms then .error ((p' : Int), 12) else mapsR xs k (ms ++ [n]) p2 := h
    cases b with
    | true =>
     have hm : n ∈ ms := of_decide_eq_true hb
     rw [if_pos hm] at h
     show f p1 = .error (q, 12)
     rw [h, hq]
    | false =>
     have hm : ¬ n ∈ ms := of_decide_eq_false hb
     rw [if_neg hm] at h
     exact h
theorem Tryz.infoInt : (Tryz.prog.info? 3).map (fun i => (i.zero, i.size, i.bytes)) = some (some (.int .i64 0), 1, 8) := by kernel_rfl
theorem wf_small {ms : List Int} (h : ∀ n ∈ ms, 0 <= n /\ n <= 3) : ∀ n ∈ ms, (Lit.int .i64 n).wf = true := fun n hn => WalkArith.wf_i64 (by have := h n hn; omega)
theorem RdAt.place {w : World} {br : Nat} {v : Value} {L : Nat} {s : St_w} {p q e : Int} (h : RdAt w br v L s) (hz : RdC w br v p q e) (k : Nat) (hk : s = .ok k) : p = (k : Int) := by
 subst hk
 have h2 := h.2
 unfold RdC at h2 hz
 rw [h2] at hz
 injection hz with hz
 injection hz with hz
 have := congrArg (fun (x : Array Value) => x[1]?) hz
 simp at this
 exact this.symm
theorem own_far_w {w w0 : World} {e : TypeId} {size : Nat} {v : Value} {n : Nat} {xs : List Value} {br : Nat} (h : w.ownsRow w0.heap.size e size v n xs) (hb : br < w0.heap.size) : v.ownBlock = none ∨ v.ownBlock ≠ some br := by
 cases hv : v.ownBlock with
 | none => exact .inl rfl
 | some j =>
  refine .inr fun e => ?_
  injection e with e
  have := (h.lt j hv).1
  omega
theorem own_row_ne {w w0 : World} {e : TypeId} {size : Nat} {v : Value} {n : Nat} {xs : List Value} {br : Nat} (h : w.ownsRow w0.heap.size e size v n xs) (hb : br < w0.heap.size) : v.ownBlock ≠ some br := by
 intro hv
 have := (h.lt br hv).1
 omega

set_option maxHeartbeats 3200000 in
theorem maps_any (br : Nat) (a : Option Addr) (cap : Nat) (xs : List Int) (s : St_w) (w : World) (h : RdAt w br (.slice a xs.length cap) xs.length s) (hsee : Sees .u8 w (.slice a xs.length cap) xs) (hne : xs = [] ∨ (Value.slice a xs.length cap).ownBlock ≠ some br) :
  Calls Tryz.prog 60 #[rdP br] w fun x w' => ∃ vm, x = .returned vm /\ ∃ s' ms, w'.ownsRow w.heap.size 3 1 vm ms.length (ms.map (Value.int .i64)) /\ ms.length <= 4 /\ (∀ n ∈ ms, 0 <= n /\ n <= 3) /\ RdAt w' br (.slice a xs.length cap) xs.length s' /\ After s (mapsA xs) s' ms /\ w.grownBy w' (some br) := by
 obtain ⟨i0, hi, hz0, hz1, hz2⟩ := info_parts Tryz.infoInt
 have hbr := h.lt
 have HS : Hid (∀ w', w.grownBy w' (some br) -> Sees .u8 w' (.slice a xs.length cap) xs) := fun w' hg => hsee.kept hg hne
 generalize hV : Value.slice a xs.length cap = V at *
 have HN : Hid (∀ (s : St_w) (most above : Int) (wr : World), w.grownBy wr (some br) -> RdAt wr br V xs.length s -> 0 <= most -> most <= 4096 -> (above = 11 ∨ above = 12) ->
   Calls Tryz.prog 76 #[rdP br, .int .i64 most, .int .i64 above] wr fun x w' => ∃ s' n, x = .returned (.int .i64 n) /\ 0 <= n /\ n <= most /\ RdAt w' br V xs.length s' /\ After s (numR xs most above) s' n /\ wr.grownBy w' (some br)) := fun s most above wr hg hat h0 h1 h2 => by
  subst hV
  exact number_any_w br a cap xs s most above wr hat (HS.out wr hg) h0 h1 h2
 generalize hL : xs.length = L at *
 have H : Hid (RdAt w br V L s) := h
 clear hsee hne h HS hV
 go_enter Tryz.func60, Tryz.ntmps60
 go_wp2_with (go_at_call 76; go_must (refine (HN.out s 4 11 _ (grown_refl _ _) H.out (by omega) (by omega) (by omega)).mono ?_); rintro e w1 ⟨s1, c, rfl, hc0, hc4, hat1, HA1, hg1⟩; have HA1 : Hid (After s (numR xs 4 11) s1 c) := HA1; have HT1 : Hid (RdAt w1 br V L s1) := hat1; clear hat1)
 go_loopw [3, 8] (fun vm i wr => ∃ (k : Nat) (s' : St_w) (ms : List Int), (k : Int) <= c /\ i = .int .i64 k /\ ms.length = k /\ wr.ownsRow w.heap.size 3 1 vm ms.length (ms.map (Value.int .i64)) /\ (∀ n ∈ ms, 0 <= n /\ n <= 3) /\ RdAt wr br V L s' /\ Till s1 (mapsR xs c.toNat []) s' (mapsR xs (c.toNat - k) ms) /\ w.grownBy wr (some br)) (fun _ i _ => c.toNat - (intOf i).toNat)
 case atStart => exact ⟨0, s1, [], by omega, rfl, rfl, World.ownsRow_nil _ _ _ _, by simp, HT1.out, Till.refl _ _, hg1⟩
 case round =>
  obtain ⟨k, s', ms, hk, rfl, hml, hown, hms, hat, htill, hgr⟩ := hrel
  have HW : Hid (∀ n ∈ ms, 0 <= n /\ n <= 3) := hms
  have HT : Hid (Till s1 (mapsR xs c.toNat []) s' (mapsR xs (c.toNat - k) ms)) := htill
  obtain ⟨p, q, e, hz⟩ := hat.open
  have HP : Hid (∀ k, s' = .ok k -> p = (k : Int)) := fun k hk => hat.place hz k hk
  obtain ⟨c0, c1, c2, c3⟩ := hz.cells
  have HAT : Hid (RdAt wr br V L s') := hat
  have hml4 : ms.length <= 4 := by omega
  have HML : Hid (ms.length = k) := hml
  clear hms htill hz hat hml
  by_cases hlt : (k : Int) < c
  ·go_wp2_with (first
    | (go_at_call 76; go_must (refine (HN.out s' 3 12 _ hgr HAT.out (by omega) (by omega) (by omega)).mono ?_); rintro e w2 ⟨s2, n, rfl, hn0, hn3, hat2, HA2, hg2⟩; have HA2 : Hid (After s' (numR xs 3 12) s2 n) := HA2; have HAT2 : Hid (RdAt w2 br V L s2) := hat2; have hown2 := hown.kept hg2 (own_far_w hown hbr); have hgr2 := hgr.trans hg2; clear hat2 hown hg2 hgr)
    | (go_at_call 49; go_must (refine (contains_any _ ms n _ (Sees.own hown2 (wf_small HW.out))).mono ?_); rintro e w3 ⟨rfl, rfl⟩)
    | (go_at_call 75; go_must (refine (fail_any br V L s2 p 12 _ HAT2.out (by omega)).mono ?_); rintro e w3 ⟨rfl, hat3, hg3⟩; have HAT2 : Hid (RdAt w3 br V L (failS s2 p 12)) := hat3; have hown2 := hown2.kept hg3 (own_far_w hown2 hbr); have hgr2 := hgr2.trans hg3; clear hat3 hg3)
    | (at_builtin; have hsz := hgr2.size; go_must (refine wpList_append_own _ rfl _ _ 32 rfl w.heap.size 3 i0 (.int .i64 0) 1 8 Tryz.underlying32 hi hz0 hz1 hz2 rfl (by decide) _ _ _ rfl (hown2.alloc _) ⟨_, 0, none⟩ 1 1 [.int .i64 n] rfl rfl (cell_one_new _ _ _) (one_cell_w _ _) (by unfold maxLen; omega) (by omega) (by simp; omega) ?_); intro v' w5 hown5 hgrow _))
   ·have hrow := own_row_ne hown2 hbr
    have R1 : w5.ownsRow w.heap.size 3 1 v' (ms ++ [n]).length ((ms ++ [n]).map (Value.int .i64)) := by simpa using hown5
    have R2 := (hgr2.trans (grown_alloc _ _ (some br))).andThen hgrow (fun j hj => .inl (own_block_lt hown2 j hj).1)
    have R3 := (HAT2.out.kept (grown_alloc _ _ none) (by simp)).kept hgrow hrow
    have HB : Hid (memB_w ms n = true) := by assumption
    have HSt : Hid (Till s1 (mapsR xs c.toNat []) (failS s2 p 12) (mapsR xs (c.toNat - (k + 1)) (ms ++ [n]))) := by
     have h1 := HT.out
     rw [show c.toNat - k = (c.toNat - (k + 1)) + 1 by omega] at h1
     exact maps_step h1 HA2.out HP.out true HB.out
    clear hown2 hown5 hgrow hgr2
    go_roundw
    case rel => exact ⟨k + 1, _, ms ++ [n], by omega, by go_num, by simp [HML.out], R1, fun m hm => by
     rcases List.mem_append.1 hm with h | h
     ·exact HW.out m h
     ·simp at h; subst h; exact ⟨hn0, hn3⟩, R3, HSt.out, R2⟩
    case measure => simp [intOf]; omega
   ·have hrow := own_row_ne hown2 hbr
    have R1 : w5.ownsRow w.heap.size 3 1 v' (ms ++ [n]).length ((ms ++ [n]).map (Value.int .i64)) := by simpa using hown5
    have R2 := (hgr2.trans (grown_alloc _ _ (some br))).andThen hgrow (fun j hj => .inl (own_block_lt hown2 j hj).1)
    have R3 := (HAT2.out.kept (grown_alloc _ _ none) (by simp)).kept hgrow hrow
    have HB : Hid (memB_w ms n = false) := by assumption
    have HSt : Hid (Till s1 (mapsR xs c.toNat []) (s2) (mapsR xs (c.toNat - (k + 1)) (ms ++ [n]))) := by
     have h1 := HT.out
     rw [show c.toNat - k = (c.toNat - (k + 1)) + 1 by omega] at h1
     exact maps_step h1 HA2.out HP.out false HB.out
    clear hown2 hown5 hgrow hgr2
    go_roundw
    case rel => exact ⟨k + 1, _, ms ++ [n], by omega, by go_num, by simp [HML.out], R1, fun m hm => by
     rcases List.mem_append.1 hm with h | h
     ·exact HW.out m h
     ·simp at h; subst h; exact ⟨hn0, hn3⟩, R3, HSt.out, R2⟩
    case measure => simp [intOf]; omega
  ·have HD : Hid (After s1 (mapsR xs c.toNat []) s' ms) := HT.out.done fun p => by rw [show c.toNat - k = 0 by omega]; rfl
   have HE : After s (mapsA xs) s' ms := After.then' (g := fun (n : Int) (p : Nat) => mapsR xs n.toNat [] p) HA1.out HD.out
   have HE : Hid (After s (mapsA xs) s' ms) := HE
   obtain ⟨av, cv, hvs⟩ : ∃ av cv, u3 = .slice av ms.length cv := (Sees.own hown (wf_small HW.out)).shape
   subst hvs
   go_wp2_with fail
   go_ret
   exact ⟨_, rfl, s', ms, hown, hml4, HW.out, HAT.out, HE.out, hgr⟩
def InC (w : World) (n : Nat) (op d a b imm : Int) : Prop := w.heap[n]? = some (.cells #[.int .i64 op, .int .i64 d, .int .i64 a, .int .i64 b, .int .i64 imm] 74 (0, 0))
theorem InC.cells {w : World} {n : Nat} {op d a b imm : Int} (h : InC w n op d a b imm) : w.cell? ⟨n, 0, none⟩ = some (.int .i64 op) /\ w.cell? ⟨n, 1, none⟩ = some (.int .i64 d) /\ w.cell? ⟨n, 2, none⟩ = some (.int .i64 a) /\ w.cell? ⟨n, 3, none⟩ = some (.int .i64 b) /\ w.cell? ⟨n, 4, none⟩ = some (.int .i64 imm) :=
 ⟨cell_of_row w n 0 _ _ _ h, cell_of_row w n 1 _ _ _ h, cell_of_row w n 2 _ _ _ h, cell_of_row w n 3 _ _ _ h, cell_of_row w n 4 _ _ _ h⟩
theorem InC.frozen {w : World} {n : Nat} {op d a b imm : Int} (h : InC w n op d a b imm) (j : Nat) : w.frozen? ⟨n, j, none⟩ = false := frozen_of_row w n j _ _ h
theorem InC.lt {w : World} {n : Nat} {op d a b imm : Int} (h : InC w n op d a b imm) : n < w.heap.size := (Array.getElem?_eq_some_iff.1 h).1
theorem InC.kept {w w' : World} {n : Nat} {op d a b imm : Int} {row : Option Nat} (h : InC w n op d a b imm) (hg : w.grownBy w' row) (hr : row ≠ some n) : InC w' n op d a b imm := by
 unfold InC
 rw [hg.block n h.lt (fun e => hr e.symm)]; exact h
theorem InC.set0 {w : World} {n : Nat} {op d a b imm : Int} (h : InC w n op d a b imm) (z : Int) : InC (w.setCell ⟨n, 0, none⟩ (.int .i64 z)) n z d a b imm := heap_setCell_same w n 0 _ _ _ h
theorem InC.set1 {w : World} {n : Nat} {op d a b imm : Int} (h : InC w n op d a b imm) (z : Int) : InC (w.setCell ⟨n, 1, none⟩ (.int .i64 z)) n op z a b imm := heap_setCell_same w n 1 _ _ _ h
theorem InC.set2 {w : World} {n : Nat} {op d a b imm : Int} (h : InC w n op d a b imm) (z : Int) : InC (w.setCell ⟨n, 2, none⟩ (.int .i64 z)) n op d z b imm := heap_setCell_same w n 2 _ _ _ h
theorem InC.set3 {w : World} {n : Nat} {op d a b imm : Int} (h : InC w n op d a b imm) (z : Int) : InC (w.setCell ⟨n, 3, none⟩ (.int .i64 z)) n op d a z imm := heap_setCell_same w n 3 _ _ _ h
theorem InC.set4 {w : World} {n : Nat} {op d a b imm : Int} (h : InC w n op d a b imm) (z : Int) : InC (w.setCell ⟨n, 4, none⟩ (.int .i64 z)) n op d a b z := heap_setCell_same w n 4 _ _ _ h
theorem InC.new (w : World) (op d a b imm : Int) : InC (w.alloc (.cells #[.int .i64 op, .int .i64 d, .int .i64 a, .int .i64 b, .int .i64 imm] 74)) w.heap.size op d a b imm := heap_alloc_new w _

theorem inst_after {xs : List Int} {s s1 s2 s3 s4 s5 : St_w} {op d a b imm q : Int} (h1 : After s (numR xs 22 12) s1 op) (h2 : After s1 (numR xs 63 12) s2 d) (h3 : After s2 (numR xs 63 12) s3 a) (h4 : After s3 (numR xs 63 12) s4 b) (h5 : After s4 (sgnR xs) s5 imm)
  (hq : ∀ p, s = .ok p -> q = (p : Int)) (r : Bool) (hr : rightB op d a b imm = r) : After s (instR xs) (if r = true then s5 else failS s5 q 12) ⟨op, d, a, b, imm⟩ := by
 have key : ∀ p0 : Nat, s = .ok p0 -> After s (fun p => (numR xs 22 12 p).then' fun op p => (numR xs 63 12 p).then' fun d p => (numR xs 63 12 p).then' fun a p => (numR xs 63 12 p).then' fun b p => (sgnR xs p).then' fun imm p =>
   if rightB op d a b imm = true then .ok ((⟨op, d, a, b, imm⟩ : In), p) else .error ((p0 : Int), 12)) (if r = true then s5 else failS s5 q 12) ⟨op, d, a, b, imm⟩ := fun p0 hp => by
  refine After.then' h1 (After.then' h2 (After.then' h3 (After.then' h4 (After.then' h5 ?_))))
  rw [hq p0 hp]
  cases s5 with
  | error x => cases r <;> rfl
  | ok p5 =>
   cases r with
   | true => show (if rightB op d a b imm = true then _ else _) = _; rw [hr]; rfl
   | false => show (if rightB op d a b imm = true then _ else _) = _; rw [hr]; rfl
 cases s with
 | error x =>
  have h1 : s1 = .error x := h1
  subst h1
  have h2 : s2 = .error x := h2
  subst h2
  have h3 : s3 = .error x := h3
  subst h3
  have h4 : s4 = .error x := h4
  subst h4
  have h5 : s5 = .error x := h5
  subst h5
  cases r <;> rfl
 | ok p0 => exact key p0 rfl

structure Inn (w wk : World) (br : Nat) (V : Value) (L : Nat) (s : St_w) (op d a b imm : Int) : Prop where
 g : w.grownBy wk (some br)
 at' : RdAt wk br V L s
 i2 : InC wk w.heap.size 0 0 0 0 0
 i4 : InC wk (w.heap.size + 1) op d a b imm
theorem Inn.new {w : World} {br : Nat} {V : Value} {L : Nat} {s : St_w} (h : RdAt w br V L s) (hbr : br < w.heap.size) :
  Inn w ((w.alloc (.cells #[.int .i64 0, .int .i64 0, .int .i64 0, .int .i64 0, .int .i64 0] 74)).alloc (.cells #[.int .i64 0, .int .i64 0, .int .i64 0, .int .i64 0, .int .i64 0] 74)) br V L s 0 0 0 0 0 := by
 refine ⟨(grown_alloc _ _ _).trans (grown_alloc _ _ _), (h.kept (grown_alloc _ _ none) (by simp)).kept (grown_alloc _ _ none) (by simp), (InC.new w 0 0 0 0 0).kept (grown_alloc _ _ none) (by simp), ?_⟩
 have := InC.new (w.alloc (.cells #[.int .i64 0, .int .i64 0, .int .i64 0, .int .i64 0, .int .i64 0] 74)) 0 0 0 0 0
 rwa [World.size_alloc] at this
theorem Inn.call {w wk w' : World} {br : Nat} {V : Value} {L : Nat} {s s' : St_w} {op d a b imm : Int} (h : Inn w wk br V L s op d a b imm) (hbr : br < w.heap.size) (hg : wk.grownBy w' (some br)) (hat : RdAt w' br V L s') : Inn w w' br V L s' op d a b imm :=
 ⟨h.g.trans hg, hat, h.i2.kept hg (by simp; omega), h.i4.kept hg (by simp; omega)⟩
theorem Inn.store {w wk : World} {br : Nat} {V : Value} {L : Nat} {s : St_w} {op d a b imm op' d' a' b' imm' : Int} {j : Nat} {u : Value} (h : Inn w wk br V L s op d a b imm) (hbr : br < w.heap.size) (hI : InC (wk.setCell ⟨w.heap.size + 1, j, none⟩ u) (w.heap.size + 1) op' d' a' b' imm') : Inn w (wk.setCell ⟨w.heap.size + 1, j, none⟩ u) br V L s op' d' a' b' imm' := by
 have hg := grown_set_w wk ⟨w.heap.size + 1, j, none⟩ u
 refine ⟨h.g.andThen hg (fun k hk => ?_), h.at'.kept hg (by simp; omega), h.i2.kept hg (by simp), hI⟩
 injection hk with hk
 have hk : w.heap.size + 1 = k := hk
 exact .inl (by omega)
theorem Inn.frozen {w wk : World} {br : Nat} {V : Value} {L : Nat} {s : St_w} {op d a b imm : Int} (h : Inn w wk br V L s op d a b imm) (j : Nat) : wk.frozen? ⟨w.heap.size + 1, j, none⟩ = false := h.i4.frozen j

abbrev stored (w : World) (n : Nat) (op d a b imm : Int) : World := ((((w.setCell ⟨n, 0, none⟩ (.int .i64 op)).setCell ⟨n, 1, none⟩ (.int .i64 d)).setCell ⟨n, 2, none⟩ (.int .i64 a)).setCell ⟨n, 3, none⟩ (.int .i64 b)).setCell ⟨n, 4, none⟩ (.int .i64 imm)
theorem stored_grown (w : World) (n : Nat) (op d a b imm : Int) : w.grownBy (stored w n op d a b imm) (some n) :=
 ((((grown_set_w w ⟨n, 0, none⟩ _).trans (grown_set_w _ ⟨n, 1, none⟩ _)).trans (grown_set_w _ ⟨n, 2, none⟩ _)).trans (grown_set_w _ ⟨n, 3, none⟩ _)).trans (grown_set_w _ ⟨n, 4, none⟩ _)
theorem InC.stored {w : World} {n : Nat} {o' d' a' b' i' : Int} (h : InC w n o' d' a' b' i') (op d a b imm : Int) : InC (stored w n op d a b imm) n op d a b imm := ((((h.set0 op).set1 d).set2 a).set3 b).set4 imm
theorem inst_wf {op d a b imm : Int} (h1 : 0 <= op /\ op <= 22) (h2 : 0 <= d /\ d <= 63) (h3 : 0 <= a /\ a <= 63) (h4 : 0 <= b /\ b <= 63) (h5 : -9223372036854775808 <= imm /\ imm <= 9223372036854775807) : (⟨op, d, a, b, imm⟩ : In).wf :=
 have a' : ∀ n : Int, -9223372036854775808 <= n -> n <= 9223372036854775807 -> (Lit.int .i64 n).wf = true := fun n _ _ => WalkArith.wf_i64 (by omega)
 ⟨a' op (by omega) (by omega), a' d (by omega) (by omega), a' a (by omega) (by omega), a' b (by omega) (by omega), a' imm (by omega) (by omega)⟩

set_option maxHeartbeats 3200000 in
theorem instruction_any (br : Nat) (a : Option Addr) (cap : Nat) (xs : List Int) (s : St_w) (w : World) (h : RdAt w br (.slice a xs.length cap) xs.length s) (hsee : Sees .u8 w (.slice a xs.length cap) xs) (hne : xs = [] ∨ (Value.slice a xs.length cap).ownBlock ≠ some br) :
  Calls Tryz.prog 77 #[rdP br] w fun x w' => ∃ i : In, x = .returned i.v /\ i.wf /\ ∃ s', RdAt w' br (.slice a xs.length cap) xs.length s' /\ After s (instR xs) s' i /\ w.grownBy w' (some br) := by
 have hbr := h.lt
 have HS : Hid (∀ w', w.grownBy w' (some br) -> Sees .u8 w' (.slice a xs.length cap) xs) := fun w' hg => hsee.kept hg hne
 generalize hV : Value.slice a xs.length cap = V at *
 have HN : Hid (∀ (s : St_w) (most above : Int) (wr : World), w.grownBy wr (some br) -> RdAt wr br V xs.length s -> 0 <= most -> most <= 4096 -> (above = 11 ∨ above = 12) ->
   Calls Tryz.prog 76 #[rdP br, .int .i64 most, .int .i64 above] wr fun x w' => ∃ s' n, x = .returned (.int .i64 n) /\ 0 <= n /\ n <= most /\ RdAt w' br V xs.length s' /\ After s (numR xs most above) s' n /\ wr.grownBy w' (some br)) := fun s most above wr hg hat h0 h1 h2 => by
  subst hV
  exact number_any_w br a cap xs s most above wr hat (HS.out wr hg) h0 h1 h2
 have HG : Hid (∀ (s : St_w) (wr : World), w.grownBy wr (some br) -> RdAt wr br V xs.length s ->
   Calls Tryz.prog 92 #[rdP br] wr fun x w' => ∃ s' n, x = .returned (.int .i64 n) /\ -9223372036854775808 <= n /\ n <= 9223372036854775807 /\ RdAt w' br V xs.length s' /\ After s (sgnR xs) s' n /\ wr.grownBy w' (some br)) := fun s wr hg hat => by
  subst hV
  exact signed_any br a cap xs s wr hat (HS.out wr hg)
 generalize hL : xs.length = L at *
 obtain ⟨p, q, e, hz⟩ := h.open
 have HP : Hid (∀ k, s = .ok k -> p = (k : Int)) := fun k hk => h.place hz k hk
 obtain ⟨c0, c1, c2, c3⟩ := hz.cells
 have H : Hid (RdAt w br V L s) := h
 clear hsee hne h HS hV hz
 go_enter Tryz.func77, Tryz.ntmps77
 have H0 := Inn.new H.out hbr
 have I0 : Hid _ := H0
 clear H H0
 go_wp2_with (first
  | (go_at_call 76; have hq := I0; clear hq; go_must (refine (HN.out s 22 12 _ I0.out.g I0.out.at' (by omega) (by omega) (by omega)).mono ?_); rintro e w1 ⟨s1, op, rfl, hop0, hop1, hat, ha, hg⟩; have A1 : Hid (After s (numR xs 22 12) s1 op) := ha; go_must (have I1 := I0.out.call hbr hg hat; have fz := I1.frozen 0; have cz := I1.i4.cells.1; have I1' := I1.store hbr (I1.i4.set0 op); have J1 : Hid _ := I1'; clear I0 I1 I1' hg hat ha))
  | (go_at_call 76; have hq := J1; clear hq; go_must (refine (HN.out s1 63 12 _ J1.out.g J1.out.at' (by omega) (by omega) (by omega)).mono ?_); rintro e w2 ⟨s2, d, rfl, hd0, hd1, hat, ha, hg⟩; have A2 : Hid (After s1 (numR xs 63 12) s2 d) := ha; go_must (have I1 := J1.out.call hbr hg hat; have fz := I1.frozen 1; have cz := I1.i4.cells.2.1; have I1' := I1.store hbr (I1.i4.set1 d); have J2 : Hid _ := I1'; clear J1 I1 I1' hg hat ha))
  | (go_at_call 76; have hq := J2; clear hq; go_must (refine (HN.out s2 63 12 _ J2.out.g J2.out.at' (by omega) (by omega) (by omega)).mono ?_); rintro e w3 ⟨s3, ra, rfl, ha0, ha1, hat, ha, hg⟩; have A3 : Hid (After s2 (numR xs 63 12) s3 ra) := ha; go_must (have I1 := J2.out.call hbr hg hat; have fz := I1.frozen 2; have cz := I1.i4.cells.2.2.1; have I1' := I1.store hbr (I1.i4.set2 ra); have J3 : Hid _ := I1'; clear J2 I1 I1' hg hat ha))
  | (go_at_call 76; have hq := J3; clear hq; go_must (refine (HN.out s3 63 12 _ J3.out.g J3.out.at' (by omega) (by omega) (by omega)).mono ?_); rintro e w4 ⟨s4, rb, rfl, hb0, hb1, hat, ha, hg⟩; have A4 : Hid (After s3 (numR xs 63 12) s4 rb) := ha; go_must (have I1 := J3.out.call hbr hg hat; have fz := I1.frozen 3; have cz := I1.i4.cells.2.2.2.1; have I1' := I1.store hbr (I1.i4.set3 rb); have J4 : Hid _ := I1'; clear J3 I1 I1' hg hat ha))
  | (go_at_call 92; go_must (refine (HG.out s4 _ J4.out.g J4.out.at').mono ?_); rintro e w5 ⟨s5, imm, rfl, hi0, hi1, hat, ha, hg⟩; have A5 : Hid (After s4 (sgnR xs) s5 imm) := ha; go_must (have I1 := J4.out.call hbr hg hat; have fz := I1.frozen 4; have cz := I1.i4.cells.2.2.2.2; have I1' := I1.store hbr (I1.i4.set4 imm); have J5 : Hid _ := I1'; obtain ⟨z0, z1, z2, z3, z4⟩ := I1'.i4.cells; clear J4 I1 I1' hg hat ha))
  | (go_at_call 93; go_must (refine (right_one op d ra rb imm _ _ (by simp)).mono ?_); rintro e w6 ⟨rfl, hb6⟩; go_must (have I6 := J5.out.call hbr (grown_below_w hb6 _) (J5.out.at'.kept (grown_below_w hb6 none) (by simp)); obtain ⟨y0, y1, y2, y3, y4⟩ := I6.i4.cells; obtain ⟨g0, g1, g2, g3, g4⟩ := I6.i2.cells; have k0 := I6.i2.frozen 0; have k1 := I6.i2.frozen 1; have k2 := I6.i2.frozen 2; have k3 := I6.i2.frozen 3; have k4 := I6.i2.frozen 4; have J6 : Hid _ := I6; clear I6))
  | (go_at_call 75; go_must (refine (fail_any br V L s5 p 12 _ J6.out.at' (by omega)).mono ?_); rintro e w7 ⟨rfl, hat, hg⟩; go_must (have I7 := J6.out.call hbr hg hat; obtain ⟨x0, x1, x2, x3, x4⟩ := I7.i4.cells; obtain ⟨g0, g1, g2, g3, g4⟩ := I7.i2.cells; have k0 := I7.i2.frozen 0; have k1 := I7.i2.frozen 1; have k2 := I7.i2.frozen 2; have k3 := I7.i2.frozen 3; have k4 := I7.i2.frozen 4; have J7 : Hid _ := I7; clear I7 hat hg)))
 ·refine bodyPost_ret (results_cell_row rfl _ _ w.heap.size _ #[.int .i64 op, .int .i64 d, .int .i64 ra, .int .i64 rb, .int .i64 imm] (0, 0) _ rfl (J7.out.i2.stored op d ra rb imm) Tryz.underlying74 rfl (by kernel_rfl)) rfl ?_
  have hr : rightB op d ra rb imm = false := by simpa using ‹(!rightB op d ra rb imm) = true›
  refine ⟨⟨op, d, ra, rb, imm⟩, rfl, inst_wf ⟨hop0, hop1⟩ ⟨hd0, hd1⟩ ⟨ha0, ha1⟩ ⟨hb0, hb1⟩ ⟨hi0, hi1⟩, _, J7.out.at'.kept (stored_grown _ _ op d ra rb imm) (by simp; omega), inst_after A1.out A2.out A3.out A4.out A5.out HP.out false hr, J7.out.g.andThen (stored_grown _ _ op d ra rb imm) (fun k hk => ?_)⟩
  injection hk with hk
  exact .inl (by omega)
 ·refine bodyPost_ret (results_cell_row rfl _ _ w.heap.size _ #[.int .i64 op, .int .i64 d, .int .i64 ra, .int .i64 rb, .int .i64 imm] (0, 0) _ rfl (J6.out.i2.stored op d ra rb imm) Tryz.underlying74 rfl (by kernel_rfl)) rfl ?_
  have hr : rightB op d ra rb imm = true := by simpa using ‹(!rightB op d ra rb imm) = false›
  refine ⟨⟨op, d, ra, rb, imm⟩, rfl, inst_wf ⟨hop0, hop1⟩ ⟨hd0, hd1⟩ ⟨ha0, ha1⟩ ⟨hb0, hb1⟩ ⟨hi0, hi1⟩, _, J6.out.at'.kept (stored_grown _ _ op d ra rb imm) (by simp; omega), inst_after A1.out A2.out A3.out A4.out A5.out HP.out true hr, J6.out.g.andThen (stored_grown _ _ op d ra rb imm) (fun k hk => ?_)⟩
  injection hk with hk
  exact .inl (by omega)
theorem one_inst_w (w : World) (e : TypeId) (i : In) (n : Nat) (hn : n = w.heap.size) : ∀ j u, (flat [i])[j]? = some u -> (w.alloc (.cells #[.int .i64 i.op, .int .i64 i.d, .int .i64 i.a, .int .i64 i.b, .int .i64 i.imm] e)).cell? ((⟨n, 0, none⟩ : Addr).add j) = some u := by
 subst hn
 intro j u hu
 have hf : flat [i] = i.cells := by simp [flat]
 rw [hf] at hu
 rw [Addr.add_mid, Nat.zero_add, World.cell?_alloc_at _ _ _ _ rfl]
 simpa using hu
theorem Tryz.infoInst4 : (Tryz.prog.info? 74).map (fun i => (i.zero, i.size, i.bytes)) = some (some (instV 0 0 0 0 0), 5, 40) := by kernel_rfl
theorem flat_app_w (a b : List In) : flat a ++ flat b = flat (a ++ b) := by simp [flat]
theorem code_step {s1 s' s2 : St_w} {f : Nat -> Rd (List In)} {xs : List Int} {is : List In} {k : Nat} {i : In} (h : Till s1 f s' (codeR xs (k + 1) is)) (ha : After s' (instR xs) s2 i) : Till s1 f s2 (codeR xs k (is ++ [i])) := by
 cases s1 with
 | error x =>
  have h : s' = .error x := h
  subst h
  exact ha
 | ok p1 =>
  cases s' with
  | error x =>
   have ha : s2 = .error x := ha
   subst ha
   exact h
  | ok p' =>
   have h : f p1 = codeR xs (k + 1) is p' := h
   rw [codeR] at h
   cases s2 with
   | error x =>
    have ha : instR xs p' = .error x := ha
    show f p1 = .error x
    rw [h, ha]; rfl
   | ok p2 =>
    have ha : instR xs p' = .ok (i, p2) := ha
    rw [ha] at h
    exact h
theorem code_none {xs : List Int} {s s1 : St_w} {q : Int} (h : After s (numR xs 64 11) s1 0) (hq : ∀ p, s = .ok p -> q = (p : Int)) : After s (codeA xs) (failS s1 q 12) [] := by
 cases s with
 | error x =>
  have h : s1 = .error x := h
  subst h
  rfl
 | ok p =>
  have hq := hq p rfl
  cases s1 with
  | error x =>
   have h : numR xs 64 11 p = .error x := h
   show codeA xs p = .error x
   rw [codeA, h]; rfl
  | ok p1 =>
   have h : numR xs 64 11 p = .ok (0, p1) := h
   show codeA xs p = .error (q, 12)
   rw [codeA, h, hq]; rfl
theorem code_some {xs : List Int} {s s1 s' : St_w} {c : Int} {is : List In} (h : After s (numR xs 64 11) s1 c) (hc : c ≠ 0) (k : After s1 (codeR xs c.toNat []) s' is) : After s (codeA xs) s' is := by
 refine After.then' (g := fun (n : Int) (p' : Nat) => if n = 0 then .error (((match s with | .ok p => p | .error _ => 0) : Nat), 12) else codeR xs n.toNat [] p') h ?_ |>.cast ?_
 ·simp only [if_neg hc]; exact k
 ·intro p hp
  subst hp
  rfl
theorem ownI_seesI_shape {w : World} {base : Nat} {e : TypeId} {v : Value} {xs : List In} (h : w.ownsRow base e 5 v xs.length (flat xs)) : ∃ a cap, v = .slice a xs.length cap := by
 obtain ⟨a, cap, rfl, _⟩ := own_seesI h
 exact ⟨a, cap, rfl⟩

set_option maxHeartbeats 3200000 in
theorem code_any (br : Nat) (a : Option Addr) (cap : Nat) (xs : List Int) (s : St_w) (w : World) (h : RdAt w br (.slice a xs.length cap) xs.length s) (hsee : Sees .u8 w (.slice a xs.length cap) xs) (hne : xs = [] ∨ (Value.slice a xs.length cap).ownBlock ≠ some br) :
  Calls Tryz.prog 61 #[rdP br] w fun x w' => ∃ vc, x = .returned vc /\ ∃ s' is, w'.ownsRow w.heap.size 74 5 vc is.length (flat is) /\ is.length <= 64 /\ (∀ i ∈ is, i.wf) /\ RdAt w' br (.slice a xs.length cap) xs.length s' /\ After s (codeA xs) s' is /\ w.grownBy w' (some br) := by
 obtain ⟨i0, hi, hz0, hz1, hz2⟩ := info_parts Tryz.infoInst4
 have hbr := h.lt
 have HS : Hid (∀ w', w.grownBy w' (some br) -> Sees .u8 w' (.slice a xs.length cap) xs) := fun w' hg => hsee.kept hg hne
 have HNE : Hid _ := hne
 generalize hV : Value.slice a xs.length cap = V at *
 have HN : Hid (∀ (s : St_w) (most above : Int) (wr : World), w.grownBy wr (some br) -> RdAt wr br V xs.length s -> 0 <= most -> most <= 4096 -> (above = 11 ∨ above = 12) ->
   Calls Tryz.prog 76 #[rdP br, .int .i64 most, .int .i64 above] wr fun x w' => ∃ s' n, x = .returned (.int .i64 n) /\ 0 <= n /\ n <= most /\ RdAt w' br V xs.length s' /\ After s (numR xs most above) s' n /\ wr.grownBy w' (some br)) := fun s most above wr hg hat h0 h1 h2 => by
  subst hV
  exact number_any_w br a cap xs s most above wr hat (HS.out wr hg) h0 h1 h2
 have HI : Hid (∀ (s : St_w) (wr : World), w.grownBy wr (some br) -> RdAt wr br V xs.length s ->
   Calls Tryz.prog 77 #[rdP br] wr fun x w' => ∃ i : In, x = .returned i.v /\ i.wf /\ ∃ s', RdAt w' br V xs.length s' /\ After s (instR xs) s' i /\ wr.grownBy w' (some br)) := fun s wr hg hat => by
  subst hV
  exact instruction_any br a cap xs s wr hat (HS.out wr hg) HNE.out
 generalize hL : xs.length = L at *
 obtain ⟨p, q, e, hz⟩ := h.open
 have HP : Hid (∀ k, s = .ok k -> p = (k : Int)) := fun k hk => h.place hz k hk
 obtain ⟨c0, c1, c2, c3⟩ := hz.cells
 have H : Hid (RdAt w br V L s) := h
 clear hsee hne h HS hV hz HNE
 go_enter Tryz.func61, Tryz.ntmps61
 go_wp2_with (first
  | (go_at_call 76; go_must (refine (HN.out s 64 11 _ (grown_refl _ _) H.out (by omega) (by omega) (by omega)).mono ?_); rintro e w1 ⟨s1, c, rfl, hc0, hc64, hat1, ha1, hg1⟩; have HA1 : Hid (After s (numR xs 64 11) s1 c) := ha1; have HT1 : Hid (RdAt w1 br V L s1) := hat1; clear hat1 ha1)
  | (go_at_call 75; go_must (refine (fail_any br V L s1 p 12 _ HT1.out (by omega)).mono ?_); rintro e w2 ⟨rfl, hat2, hg2⟩; have HT2 : Hid (RdAt w2 br V L (failS s1 p 12)) := hat2; clear hat2))
 ·obtain rfl : c = 0 := by simpa using ‹(c == 0) = true›
  refine wp_loop_rounds 1 ?_
  rw [rounds_succ]
  go_wp2_with fail
  go_ret
  exact ⟨_, rfl, _, [], World.ownsRow_nil _ _ _ _, by simp, by simp, HT2.out, code_none HA1.out HP.out, hg1.trans hg2⟩
 ·have h00 : (c == 0) = false := by assumption
  have hcn : c ≠ 0 := by simpa using h00
  rw [h00]
  have HCN : Hid (c ≠ 0) := hcn
  clear hcn
  go_loopw [5, 18] (fun vc i wr => ∃ (k : Nat) (s' : St_w) (is : List In), (k : Int) <= c /\ i = .int .i64 k /\ is.length = k /\ wr.ownsRow w.heap.size 74 5 vc is.length (flat is) /\ (∀ i ∈ is, i.wf) /\ RdAt wr br V L s' /\ Till s1 (codeR xs c.toNat []) s' (codeR xs (c.toNat - k) is) /\ w.grownBy wr (some br)) (fun _ i _ => c.toNat - (intOf i).toNat)
  case atStart => exact ⟨0, s1, [], by omega, rfl, rfl, World.ownsRow_nil _ _ _ _, by simp, HT1.out, Till.refl _ _, hg1⟩
  case round =>
   obtain ⟨k, s', is, hk, rfl, hml, hown, hms, hat, htill, hgr⟩ := hrel
   have HW : Hid (∀ i ∈ is, i.wf) := hms
   have HT : Hid (Till s1 (codeR xs c.toNat []) s' (codeR xs (c.toNat - k) is)) := htill
   have HAT : Hid (RdAt wr br V L s') := hat
   have hml64 : is.length <= 64 := by omega
   have HML : Hid (is.length = k) := hml
   clear hms htill hat hml
   by_cases hlt : (k : Int) < c
   ·go_wp2_with (first
     | (go_at_call 77; go_must (refine (HI.out s' _ hgr HAT.out).mono ?_); rintro e w2 ⟨⟨jo, jd, ja, jb, ji⟩, rfl, hwf, s2, hat2, ha2, hg2⟩; have HA2 : Hid (After s' (instR xs) s2 ⟨jo, jd, ja, jb, ji⟩) := ha2; have HWF : Hid ((⟨jo, jd, ja, jb, ji⟩ : In).wf) := hwf; have HAT2 : Hid (RdAt w2 br V L s2) := hat2; have hown2 := hown.kept hg2 (own_far_w hown hbr); have hgr2 := hgr.trans hg2; clear hat2 hown hg2 hgr hwf ha2)
     | (at_builtin; have hsz := hgr2.size; go_must (refine wpList_append_own _ rfl (.tmp 20) (.tmp 23) 37 rfl w.heap.size 74 i0 (instV 0 0 0 0 0) 5 40 Tryz.underlying37 hi hz0 hz1 hz2 rfl (by decide) _ _ _ rfl (hown2.alloc _) ⟨_, 0, none⟩ 1 1 (flat [In.mk jo jd ja jb ji]) rfl rfl (one_inst_w _ _ ⟨jo, jd, ja, jb, ji⟩ _ (by simp)) (flat_one _) (by unfold maxLen; omega) (by omega) (by simp; omega) ?_); intro v' w5 hown5 hgrow _))
    have hrow := own_row_ne hown2 hbr
    have R1 : w5.ownsRow w.heap.size 74 5 v' (is ++ [In.mk jo jd ja jb ji]).length (flat (is ++ [In.mk jo jd ja jb ji])) := by rw [<- flat_app_w]; simpa using hown5
    have R2 := (hgr2.trans (grown_alloc _ _ (some br))).andThen hgrow (fun j hj => .inl (hown2.lt j hj).1)
    have R3 := (HAT2.out.kept (grown_alloc _ _ none) (by simp)).kept hgrow hrow
    have HSt : Hid (Till s1 (codeR xs c.toNat []) s2 (codeR xs (c.toNat - (k + 1)) (is ++ [In.mk jo jd ja jb ji]))) := by
     have h1 := HT.out
     rw [show c.toNat - k = (c.toNat - (k + 1)) + 1 by omega] at h1
     exact code_step h1 HA2.out
    clear hown2 hown5 hgrow hgr2
    go_roundw
    case rel => exact ⟨k + 1, _, is ++ [In.mk jo jd ja jb ji], by omega, by go_num, by simp [HML.out], R1, fun m hm => by
     rcases List.mem_append.1 hm with h | h
     ·exact HW.out m h
     ·simp at h; subst h; exact HWF.out, R3, HSt.out, R2⟩
    case measure => simp [intOf]; omega
   ·have HD : After s1 (codeR xs c.toNat []) s' is := HT.out.done fun p => by rw [show c.toNat - k = 0 by omega]; rfl
    have HE : Hid (After s (codeA xs) s' is) := code_some HA1.out HCN.out HD
    obtain ⟨av, cv, hvs⟩ : ∃ av cv, u5 = .slice av is.length cv := ownI_seesI_shape hown
    subst hvs
    clear HD
    go_wp2_with fail
    go_ret
    exact ⟨_, rfl, s', is, hown, hml64, HW.out, HAT.out, HE.out, hgr⟩
theorem keepH_w {p : Prop} (h : p) : Hid p := h
structure Dec (w wk : World) (V : Value) (L : Nat) (s : St_w) : Prop where
 g : Below w.heap.size w wk
 at' : RdAt wk (w.heap.size + 1) V L s
 md : MdC wk w.heap.size (.slice none 0 0) (.slice none 0 0)
theorem Dec.call {w wk w' : World} {V : Value} {L : Nat} {s s' : St_w} (h : Dec w wk V L s) (hg : wk.grownBy w' (some (w.heap.size + 1))) (hat : RdAt w' (w.heap.size + 1) V L s') : Dec w w' V L s' :=
 ⟨h.g.grown hg h.g.size (fun k hk => by injection hk with hk; omega), hat, h.md.kept hg (by simp)⟩
theorem dec_new (w : World) (V : Value) : RdC ((w.alloc (.cells #[.slice none 0 0, .slice none 0 0] 39)).alloc (.cells #[V, .int .i64 0, .int .i64 0, .int .i64 0] 110)) (w.heap.size + 1) V 0 0 0 /\
  MdC ((w.alloc (.cells #[.slice none 0 0, .slice none 0 0] 39)).alloc (.cells #[V, .int .i64 0, .int .i64 0, .int .i64 0] 110)) w.heap.size (.slice none 0 0) (.slice none 0 0) /\
  Below w.heap.size w ((w.alloc (.cells #[.slice none 0 0, .slice none 0 0] 39)).alloc (.cells #[V, .int .i64 0, .int .i64 0, .int .i64 0] 110)) := by
 refine ⟨?_, (MdC.new w _ _).kept (grown_alloc _ _ none) (by simp), ((Below.refl _ _).alloc (Nat.le_refl _) _).alloc (by simp) _⟩
 have := heap_alloc_new (w.alloc (.cells #[.slice none 0 0, .slice none 0 0] 39)) (.cells #[V, .int .i64 0, .int .i64 0, .int .i64 0] 110)
 rw [World.size_alloc] at this
 exact this
theorem results_mod {P : Program} {fn : Func} {p u v : Tmp} {ty : TypeId} (h : fn.results = #[.cell p ty, .tmp u, .tmp v]) (tmps : Array Value) (w : World) (g : Nat) (t : TypeId) (cs : Array Value) (fr : Nat × Nat) (d : TypeDesc)
  (hp : tmps.getD p undef = .pointer (some ⟨g, 0, none⟩)) (hg : w.heap[g]? = some (.cells cs t fr))
  (hu : P.underlying ty = some d) (hd : (match d with | .struct _ | .array _ _ => true | _ => false) = true) (hi : (P.info? ty).map (·.size) = some cs.size) :
  (results fn tmps).run P w = .ok (.tuple #[.agg cs, tmps.getD u undef, tmps.getD v undef]) w := by
 have hp' : tmps[p]?.getD undef = .pointer (some ⟨g, 0, none⟩) := by simpa using hp
 simp [results, h, hp', asAddr, run_loadVar_row w g t ty cs fr d hg hu hd hi]
theorem RdAt.tells {w : World} {br : Nat} {v : Value} {L : Nat} {s : St_w} {p q e : Int} (h : RdAt w br v L s) (hz : RdC w br v p q e) : (∃ k, s = .ok k /\ e = 0) ∨ (s = .error (q, e) /\ e ≠ 0) := by
 cases s with
 | ok k =>
  refine .inl ⟨k, rfl, ?_⟩
  have h2 := h.2
  unfold RdC at h2 hz
  rw [h2] at hz
  injection hz with hz
  injection hz with hz
  have := congrArg (fun (x : Array Value) => x[3]?) hz
  simp at this
  exact this.symm
 | error x =>
  obtain ⟨q', e'⟩ := x
  obtain ⟨he, z, h2⟩ := h
  unfold RdC at h2 hz
  rw [h2] at hz
  injection hz with hz
  injection hz with hz
  have a := congrArg (fun (x : Array Value) => x[2]?) hz
  have b := congrArg (fun (x : Array Value) => x[3]?) hz
  simp at a b
  subst a b
  exact .inr ⟨rfl, he⟩
theorem dec_after {xs : List Int} {s1 s2 s3 s4 : St_w} {ms : List Int} {is : List In} (h1 : After (.ok 0) (headR xs 3) s1 ()) (h2 : After s1 (mapsA xs) s2 ms) (h3 : After s2 (codeA xs) s3 is) (h4 : After s3 (endR xs) s4 ()) : (decR xs).Tells s4 (ms, is) := by
 have key : After (.ok 0) (fun p => (headR xs 3 p).then' fun _ p => (mapsA xs p).then' fun ms p => (codeA xs p).then' fun is p => (endR xs p).then' fun _ p => .ok ((ms, is), p)) s4 (ms, is) :=
  After.then' h1 (After.then' h2 (After.then' h3 (After.then' h4 (by cases s4 <;> rfl))))
 exact key
theorem dec_ok {xs : List Int} {p : Nat} {ms : List Int} {is : List In} (h : (decR xs).Tells (.ok p) (ms, is)) : decL xs = ((ms, is), 0, 0) := by
 have h : decR xs = .ok ((ms, is), p) := h
 unfold decL; rw [h]
theorem dec_bad {xs : List Int} {q e : Int} {m : List Int × List In} (h : (decR xs).Tells (.error (q, e)) m) : decL xs = (([], []), q, e) := by
 have h : decR xs = .error (q, e) := h
 unfold decL; rw [h]
theorem own_apart2 {w w' : World} {B : Nat} {e e' : TypeId} {z z' : Nat} {v v' : Value} {n n' : Nat} {xs xs' : List Value} (h : w.ownsRow B e z v n xs) (h' : w'.ownsRow w.heap.size e' z' v' n' xs') : ∀ k, v.ownBlock = some k -> v'.ownBlock ≠ some k := fun k hk hk' => by
 have a := (h.lt k hk).2
 have b := (h'.lt k hk').1
 omega

set_option maxHeartbeats 3200000 in
theorem decode_any (v : Value) (xs : List Int) (w : World) (h : Sees .u8 w v xs) :
  Calls Tryz.prog 53 #[v] w fun e w' => ∃ vm vc, e = .returned (.tuple #[modV vm vc, .int .i64 (decL xs).2.1, .int .i64 (decL xs).2.2]) /\
   w'.ownsRow w.heap.size 3 1 vm (decL xs).1.1.length ((decL xs).1.1.map (Value.int .i64)) /\ w'.ownsRow w.heap.size 74 5 vc (decL xs).1.2.length (flat (decL xs).1.2) /\ (∀ k, vm.ownBlock = some k -> vc.ownBlock ≠ some k) /\ Below w.heap.size w w' := by
 have h0 := h
 obtain ⟨a, cap, rfl, hl, hm, hn0, hw, hs⟩ := h
 have HNE : Hid (xs = [] ∨ (Value.slice a xs.length cap).ownBlock ≠ some (w.heap.size + 1)) := by
  by_cases hx : xs = []
  ·exact .inl hx
  ·obtain ⟨b, off, rfl, hlt, _⟩ := hs hx
   refine .inr ?_
   simp [Value.ownBlock]
   omega
 have HS : Hid (∀ w', Below w.heap.size w w' -> Sees .u8 w' (.slice a xs.length cap) xs) := fun w' hb => h0.below hb (Nat.le_refl _)
 have HL : Hid (xs.length <= cap /\ cap <= 9223372036854775807) := ⟨hl, hm⟩
 obtain ⟨r0, m0, b0⟩ := dec_new w (.slice a xs.length cap)
 have HR0 := keepH_w r0
 have HM0 := keepH_w m0
 have HB0 := keepH_w b0
 clear hs h0 hl hm hn0 hw r0 m0 b0
 go_enter Tryz.func53, Tryz.ntmps53
 go_wp2_with (first
  | (go_at_call 59; go_must (refine (head_any (w.heap.size + 1) a cap xs _ HR0.out (HS.out _ HB0.out) HNE.out).mono ?_); rintro e w1 ⟨rfl, s1, hat, ha, hg⟩; go_must (have A1 : Hid (After (.ok 0) (headR xs 3) s1 ()) := ha; have D1 : Dec w w1 (.slice a xs.length cap) xs.length s1 := ⟨HB0.out.grown hg HB0.out.size (fun k hk => by injection hk with hk; omega), hat, HM0.out.kept hg (by simp)⟩; have I1 : Hid (Dec w w1 (.slice a xs.length cap) xs.length s1) := D1; clear D1 ha hat hg))
  | (go_at_call 60; go_must (refine (maps_any (w.heap.size + 1) a cap xs s1 _ I1.out.at' (HS.out _ I1.out.g) HNE.out).mono ?_); rintro e w2 ⟨vm, rfl, s2, ms, hown, hml, hms, hat, ha, hg⟩; go_must (have A2 : Hid (After s1 (mapsA xs) s2 ms) := ha; have D2 := I1.out.call hg hat; have O2 : Hid (w2.ownsRow w1.heap.size 3 1 vm ms.length (ms.map (Value.int .i64))) := hown; have I2 : Hid (Dec w w2 (.slice a xs.length cap) xs.length s2) := D2; have hz1 : w.heap.size + 1 < w1.heap.size := I1.out.at'.lt; obtain ⟨am, km, hvm⟩ := (Sees.own hown (wf_small hms)).shape; clear D2 ha hat hg hown hms; subst hvm))
  | (go_at_call 61; go_must (refine (code_any (w.heap.size + 1) a cap xs s2 _ I2.out.at' (HS.out _ I2.out.g) HNE.out).mono ?_); rintro e w3 ⟨vc, rfl, s3, is, hown, hil, his, hat, ha, hg⟩; go_must (have A3 : Hid (After s2 (codeA xs) s3 is) := ha; have D3 := I2.out.call hg hat; have O3 : Hid (w3.ownsRow w2.heap.size 74 5 vc is.length (flat is)) := hown; have AP := keepH_w (own_apart2 O2.out hown); have O2' : Hid (w3.ownsRow w1.heap.size 3 1 (.slice am ms.length km) ms.length (ms.map (Value.int .i64))) := O2.out.kept hg (own_far_w O2.out hz1); have I3 : Hid (Dec w w3 (.slice a xs.length cap) xs.length s3) := D3; have hz2 : w.heap.size + 1 < w2.heap.size := I2.out.at'.lt; obtain ⟨ac, kc, hvc⟩ := ownI_seesI_shape hown; clear D3 ha hat hg hown his; subst hvc))
  | (go_at_call 62; go_must (refine (end_any (w.heap.size + 1) a cap xs s3 _ I3.out.at' HL.out.2 HL.out.1).mono ?_); rintro e w4 ⟨rfl, s4, hat, ha, hg⟩; go_must (have A4 : Hid (After s3 (endR xs) s4 ()) := ha; have D4 := I3.out.call hg hat; have O4 : Hid (w4.ownsRow w2.heap.size 74 5 (.slice ac is.length kc) is.length (flat is)) := O3.out.kept hg (own_far_w O3.out hz2); have O5 : Hid (w4.ownsRow w1.heap.size 3 1 (.slice am ms.length km) ms.length (ms.map (Value.int .i64))) := O2'.out.kept hg (own_far_w O2'.out hz1); obtain ⟨p, q, e, hz⟩ := hat.open; obtain ⟨c0, c1, c2, c3⟩ := hz.cells; obtain ⟨d0, d1⟩ := D4.md.cells; have f0 := D4.md.frozen 0; have f1 := D4.md.frozen 1; have HZ : Hid (RdC w4 (w.heap.size + 1) (.slice a xs.length cap) p q e) := hz; have I4 : Hid (Dec w w4 (.slice a xs.length cap) xs.length s4) := D4; clear D4 ha hat hg hz)))
 ·have hne : (e != 0) = true := by assumption
  have hen : e ≠ 0 := by simpa using hne
  have HE : Hid (decL xs = (([], []), q, e)) := by
   rcases I4.out.at'.tells HZ.out with ⟨k, _, h⟩ | ⟨h, _⟩
   ·exact absurd h hen
   ·have hd := dec_after A1.out A2.out A3.out A4.out
    rw [h] at hd
    exact dec_bad hd
  go_region
  all_goals go_wp2_with fail
  all_goals
   refine bodyPost_ret (results_mod rfl _ _ w.heap.size _ #[.slice none 0 0, .slice none 0 0] (0, 0) _ rfl (MdC.set (vm := .slice none 0 0) (vc := .slice none 0 0) (I4.out.md.kept (grown_drewN _ _ none) (by simp)) _ _) Tryz.underlying39 rfl (by kernel_rfl)) rfl ?_
   rw [HE.out]
   exact ⟨_, _, rfl, World.ownsRow_nil _ _ _ _, World.ownsRow_nil _ _ _ _, by simp [Value.ownBlock], (((below_drewN I4.out.g _).setCell (p := ⟨w.heap.size, 0, none⟩) (Nat.le_refl _) _).setCell (p := ⟨w.heap.size, 1, none⟩) (Nat.le_refl _) _)⟩
 ·have hne : (e != 0) = false := by assumption
  have he0 : e = 0 := by simpa using hne
  have HE : Hid (decL xs = ((ms, is), 0, 0)) := by
   rcases I4.out.at'.tells HZ.out with ⟨k, h, _⟩ | ⟨_, h⟩
   ·have hd := dec_after A1.out A2.out A3.out A4.out
    rw [h] at hd
    exact dec_ok hd
   ·exact absurd he0 h
  have hs2 := I2.out.g.size
  have hg4 := (grown_set_w w4 ⟨w.heap.size, 0, none⟩ (.slice am ms.length km)).trans (grown_set_w _ ⟨w.heap.size, 1, none⟩ (.slice ac is.length kc))
  refine bodyPost_ret (results_mod rfl _ _ w.heap.size _ #[.slice am ms.length km, .slice ac is.length kc] (0, 0) _ rfl (I4.out.md.set _ _) Tryz.underlying39 rfl (by kernel_rfl)) rfl ?_
  rw [HE.out]
  exact ⟨_, _, rfl, own_base_w (O5.out.kept hg4 (own_far_w (br := w.heap.size) O5.out (by omega))) (by omega), own_base_w (O4.out.kept hg4 (own_far_w (br := w.heap.size) O4.out (by omega))) (by omega), AP.out, ((I4.out.g.setCell (p := ⟨w.heap.size, 0, none⟩) (Nat.le_refl _) _).setCell (p := ⟨w.heap.size, 1, none⟩) (Nat.le_refl _) _)⟩
end Go.Proofs.YtlkdniglaldilaaGreat
