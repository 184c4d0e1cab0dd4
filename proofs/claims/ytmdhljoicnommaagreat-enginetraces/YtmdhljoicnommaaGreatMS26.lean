/-
  S10Meth
  S10Raise
  S10Totals
  S10Awake
  W10Marks
  W10Totals
  S10Ask
-/
import Derived.Test.YtmdhljoicnommaaGreatMS24
import Derived.Deep.RegionHeld3
import Derived.Lib.MinMax
import Derived.Lib.SliceRun
namespace Go.Proofs.YtmdhljoicnommaaGreat
set_option maxHeartbeats 12800000
open Go.RowKit
set_option linter.unusedVariables false
set_option linter.unusedSimpArgs false
set_option maxRecDepth 100000
def nums (xs:List Int):List Value:=xs.map (Value.int .u64)
structure Sc (w:World) (b:Nat) (ws cs:List Int):Prop where
 hp:Hp w b 59 (nums ws++nums cs)
 lw:ws.length=16
 lc:cs.length=16
def nought:List Int:=List.replicate 16 0
theorem qCj (xs:List Int):(nums xs).length=xs.length:=by simp [nums]
theorem nums_at (xs:List Int){k:Nat}(h:k<xs.length):(nums xs)[k]? = some (U8 (xs.getD k 0)):=by
 simp [nums,List.getD,List.getElem?_eq_getElem h]
theorem nums_set (xs:List Int)(k:Nat)(n:Int):(nums xs).set k (U8 n)=nums (xs.set k n):=by
 simp [nums,List.map_set]
theorem Sc.word {w:World}{b:Nat}{ws cs:List Int}(h:Sc w b ws cs){k:Nat}(a:k<16):w.cell? ⟨b,k,none⟩=some (U8 (ws.getD k 0)):=by
 refine h.hp.cell ?_;rw [List.getElem?_append_left (by rw [qCj,h.lw];exact a)];exact nums_at ws (by rw [h.lw];exact a)
theorem Sc.count {w:World}{b:Nat}{ws cs:List Int}(h:Sc w b ws cs){k:Nat}(a:k<16):w.cell? ⟨b,16+k,none⟩=some (U8 (cs.getD k 0)):=by
 refine h.hp.cell ?_;rw [List.getElem?_append_right (by rw [qCj,h.lw];omega),qCj,h.lw,show 16+k-16=k by omega];exact nums_at cs (by rw [h.lc];exact a)
theorem Sc.setW {w:World}{b:Nat}{ws cs:List Int}(h:Sc w b ws cs){k:Nat}(a:k<16)(n:Int):Sc (w.setCell ⟨b,k,none⟩ (U8 n)) b (ws.set k n) cs:=by
 refine ⟨?_,by simp [h.lw],h.lc⟩;have:=h.hp.set k (U8 n);rw [List.set_append_left _ _ (by rw [qCj,h.lw];exact a),nums_set] at this;exact this
theorem Sc.setC {w:World}{b:Nat}{ws cs:List Int}(h:Sc w b ws cs){k:Nat}(a:k<16)(n:Int):Sc (w.setCell ⟨b,16+k,none⟩ (U8 n)) b ws (cs.set k n):=by
 refine ⟨?_,h.lw,by simp [h.lc]⟩;have:=h.hp.set (16+k) (U8 n);rw [List.set_append_right _ _ (by rw [qCj,h.lw];omega),qCj,h.lw,show 16+k-16=k by omega,nums_set] at this;exact this
theorem Sc.lt {w:World}{b:Nat}{ws cs:List Int}(h:Sc w b ws cs):b<w.heap.size:=h.hp.lt
theorem Sc.below {w a:World}{b B:Nat}{ws cs:List Int}(h:Sc w b ws cs)(d:Below B w a)(c:b<B):Sc a b ws cs:=⟨h.hp.below d c,h.lw,h.lc⟩
theorem Sc.grown {w c:World}{b:Nat}{ws cs:List Int}{row:Option Nat}(h:Sc w b ws cs)(d:w.grownBy c row)(a:some b≠row):Sc c b ws cs:=⟨h.hp.grown d a,h.lw,h.lc⟩
theorem Sc.drew {w:World}{b:Nat}{ws cs:List Int}(h:Sc w b ws cs):Sc w.drew b ws cs:=⟨h.hp.drew,h.lw,h.lc⟩
def inB (at':Int):Bool:=decide (0<=at'/\at'<16)
theorem swithin_any (a m:Int)(w:World):Cl 27 #[I4 a,I4 m] w fun e c=>e=.returned (.bool (decide (0<=a/\a<m)))/\c=w:=by
 by_cases h1:0<=a
 ·by_cases h2:a<m
  ·have b:decide (0<=a/\a<m)=true:=decide_eq_true ⟨h1,h2⟩;rw [b];go_enter Tryz.func27,Tryz.ntmps27;go_wp2;go_ret;exact ⟨rfl,rfl⟩
  ·have b:decide (0<=a/\a<m)=false:=decide_eq_false (fun h=>h2 h.2);rw [b];go_enter Tryz.func27,Tryz.ntmps27;go_wp2;go_ret;exact ⟨rfl,rfl⟩
 ·have b:decide (0<=a/\a<m)=false:=decide_eq_false (fun h=>h1 h.1);rw [b];go_enter Tryz.func27,Tryz.ntmps27;go_wp2;go_ret;exact ⟨rfl,rfl⟩
theorem new_any (w:World):Cl 10 #[] w fun e a=>e=.returned (.pointer (some ⟨w.heap.size,0,none⟩))/\Sc a w.heap.size nought nought/\a.heap.size=w.heap.size+1/\Bw w a:=by
 go_enter Tryz.func10,Tryz.ntmps10;go_wp2;go_ret;exact ⟨rfl,⟨Hp.new w _ _,rfl,rfl⟩,by simp,(Below.refl _ _).alloc (Nat.le_refl _) _⟩
theorem swithin_as {a:Int}{r:Bool}(h:Hid (inB a=r))(w:World):Cl 27 #[I4 a,I4 16] w fun e b=>e=.returned (.bool r)/\b=w:=by
 rw [<- h.out];exact swithin_any a 16 w
theorem load_any (a:Int){b:Nat}{ws cs:List Int}(w:World)(h:Sc w b ws cs):Cl 57 #[.pointer (some ⟨b,0,none⟩),I4 a] w fun e g=>e=.returned (.tuple #[U8 (if inB a then ws.getD a.toNat 0 else 0),I4 (if inB a then 0 else 35)])/\g=w:=by
 cases hi:inB a with
 | false =>
  have d:Hid (inB a=false):=hi;clear hi;go_enter Tryz.func57,Tryz.ntmps57
  go_wp2_with (go_at_call 27;go_must (refine (swithin_as d _).mono ?_);rintro e f ⟨rfl,rfl⟩)
  go_ret2;exact ⟨rfl,rfl⟩
 | true =>
  have d:Hid (inB a=true):=hi;obtain ⟨h0,l⟩:0<=a/\a<16:=of_decide_eq_true hi;obtain ⟨k,rfl⟩:∃ k:Nat,a=k:=⟨a.toNat,by omega⟩;have c:=h.word (k:=k) (by omega);obtain ⟨x,i⟩:∃ x,Hid (ws.getD k 0=x):=⟨_,rfl⟩;rw [Int.toNat_natCast];rw [i.out] at c ⊢;clear hi;go_enter Tryz.func57,Tryz.ntmps57
  go_wp2_with (go_at_call 27;go_must (refine (swithin_as d _).mono ?_);rintro e f ⟨rfl,rfl⟩)
  go_ret2;exact ⟨rfl,rfl⟩
theorem store_any (a n:Int){b:Nat}{ws cs:List Int}(w:World)(h:Sc w b ws cs):Cl 12 #[.pointer (some ⟨b,0,none⟩),I4 a,U8 n] w fun e g=>e=.returned (I4 (if inB a then 0 else 35))/\Sc g b (if inB a then ws.set a.toNat n else ws) cs/\w.grownBy g (some b)/\g.heap.size=w.heap.size:=by
 cases hi:inB a with
 | false =>
  have i:Hid (inB a=false):=hi;have d:Hid (Sc w b ws cs):=h;clear hi h;go_enter Tryz.func12,Tryz.ntmps12
  go_wp2_with (go_at_call 27;go_must (refine (swithin_as i _).mono ?_);rintro e l ⟨rfl,rfl⟩)
  go_ret;exact ⟨rfl,d.out,grownJ_refl _ _,rfl⟩
 | true =>
  have i:Hid (inB a=true):=hi;obtain ⟨h0,o⟩:0<=a/\a<16:=of_decide_eq_true hi;obtain ⟨k,rfl⟩:∃ k:Nat,a=k:=⟨a.toNat,by omega⟩;have c:=h.word (k:=k) (by omega);have f:=h.hp.frozen k;have d:Hid (Sc w b ws cs):=h;rw [Int.toNat_natCast];clear hi h;go_enter Tryz.func12,Tryz.ntmps12
  go_wp2_with (go_at_call 27;go_must (refine (swithin_as i _).mono ?_);rintro e l ⟨rfl,rfl⟩)
  go_ret;exact ⟨rfl,d.out.setW (by omega) n,qAb _ _ _ _,by simp [World.setCell]⟩

theorem wiped (ws:List Int)(cs:List Int)(h:ws.length=16):splice (nums ws++nums cs) 0 (List.replicate 16 (Value.int .u64 0))=nums nought++nums cs:=by
 rw [splice_ahead _ _ _ _ (by simp [qCj,h]),qAr _ _ (by simp [qCj,h])]
 rfl
theorem wipe_any {b:Nat}{ws cs:List Int}(w:World)(h:Sc w b ws cs):Cl 24 #[.pointer (some ⟨b,0,none⟩)] w fun e f=>e=.returned (.tuple #[])/\Sc f b nought cs/\w.grownBy f (some b):=by
 have c:Hid (Sc w b ws cs):=h
 have i:∀ a,(Builtin.clear_ #[67] a #[.slice (some ⟨b,0,none⟩) 16 16]).run Tryz.prog w=.ok (.tuple #[]) (w.setCells b 0 (List.replicate 16 (U8 0))):=fun a =>
  Lib.run_clear_slice w 67 26 a (U8 0) Tryz.underlying67 (fun w=>by kernel_rfl) rfl rfl b 0 16 16 (by omega) (fun j g=>by rw [Nat.zero_add,h.word g];rfl) (fun j g=>h.hp.frozen _)
 clear h;go_enter Tryz.func24,Tryz.ntmps24;go_wp2;have d:=c.out.hp.sets (List.replicate 16 (Value.int .u64 0)) 0;rw [wiped ws cs c.out.lw] at d;exact bodyPost_end (results_none rfl _ _ _) rfl ⟨rfl,⟨d,rfl,c.out.lc⟩,qAd _ _ _ _⟩
def addW (a b:Int):Int:=(a+b)%18446744073709551616
def oneUp (cs:List Int) (k:Nat):List Int:=cs.set k (addW (cs.getD k 0) 1)
theorem mark_any (a:Int){b:Nat}{ws cs:List Int}(w:World)(h:Sc w b ws cs):Cl 54 #[.pointer (some ⟨b,16,none⟩),I4 a] w fun e i=>e=.returned (.tuple #[U8 (if inB a then addW (cs.getD a.toNat 0) 1 else 0),I4 (if inB a then 0 else 35)])/\Sc i b ws (if inB a then oneUp cs a.toNat else cs)/\w.grownBy i (some b)/\i.heap.size=w.heap.size:=by
 cases hi:inB a with
 | false =>
  have g:Hid (inB a=false):=hi;have d:Hid (Sc w b ws cs):=h;clear hi h;go_enter Tryz.func54,Tryz.ntmps54
  go_wp2_with (go_at_call 27;go_must (refine (swithin_as g _).mono ?_);rintro e l ⟨rfl,rfl⟩)
  go_ret2;exact ⟨rfl,d.out,grownJ_refl _ _,rfl⟩
 | true =>
  have g:Hid (inB a=true):=hi;obtain ⟨h0,o⟩:0<=a/\a<16:=of_decide_eq_true hi;obtain ⟨k,rfl⟩:∃ k:Nat,a=k:=⟨a.toNat,by omega⟩;have c:=h.count (k:=k) (by omega);have f:=h.hp.frozen (16+k);have d:Hid (Sc w b ws cs):=h;rw [Int.toNat_natCast];obtain ⟨x,n⟩:∃ x,Hid (cs.getD k 0=x):=⟨_,rfl⟩;unfold oneUp;rw [n.out] at c ⊢;clear hi h;go_enter Tryz.func54,Tryz.ntmps54
  go_wp2_with (go_at_call 27;go_must (refine (swithin_as g _).mono ?_);rintro e l ⟨rfl,rfl⟩)
  go_region
  all_goals go_wp2
  all_goals go_ret2
  all_goals exact ⟨rfl,d.out.drew.setC (by omega) _,grown_undrew (qAb _ _ _ _),by simp [World.setCell]⟩
theorem getD_setI {xs:List Int}(k i:Nat)(n:Int)(h:k<xs.length):(xs.set k n).getD i 0=if i=k then n else xs.getD i 0:=by
 by_cases hik:i=k
 ·subst hik;simp [List.getD,h]
 ·simp [List.getD,List.getElem?_set,hik,Ne.symm hik]
theorem load_as {a x r:Int}{b:Nat}{ws cs:List Int}(c:Hid ((if inB a then ws.getD a.toNat 0 else 0)=x))(d:Hid ((if inB a then 0 else 35:Int)=r))(w:World)(h:Sc w b ws cs):Cl 57 #[.pointer (some ⟨b,0,none⟩),I4 a] w fun e f=>e=.returned (.tuple #[U8 x,I4 r])/\f=w:=by
 rw [<- c.out,<- d.out];exact load_any a w h
theorem store_as {a n r:Int}{b:Nat}{ws cs d:List Int}(f:Hid ((if inB a then ws.set a.toNat n else ws)=d))(g:Hid ((if inB a then 0 else 35:Int)=r))(w:World)(h:Sc w b ws cs):Cl 12 #[.pointer (some ⟨b,0,none⟩),I4 a,U8 n] w fun e c=>e=.returned (I4 r)/\Sc c b d cs/\w.grownBy c (some b)/\c.heap.size=w.heap.size:=by
 rw [<- f.out,<- g.out];exact store_any a n w h
theorem mark_as {a x r:Int}{b:Nat}{ws cs d:List Int}(i:Hid ((if inB a then addW (cs.getD a.toNat 0) 1 else 0)=x))(f:Hid ((if inB a then oneUp cs a.toNat else cs)=d))(g:Hid ((if inB a then 0 else 35:Int)=r))(w:World)(h:Sc w b ws cs):Cl 54 #[.pointer (some ⟨b,16,none⟩),I4 a] w fun e c=>e=.returned (.tuple #[U8 x,I4 r])/\Sc c b ws d/\w.grownBy c (some b)/\c.heap.size=w.heap.size:=by
 rw [<- i.out,<- f.out,<- g.out];exact mark_any a w h
theorem qDa (w:World)(o:Obj):Bw w (w.alloc o):=(Below.refl _ _).alloc (Nat.le_refl _) _
theorem nought_at0 (k:Nat):nought.getD k 0=0:=by
 by_cases h:k<16
 ·exact (by decide:∀ k:Fin 16,nought.getD k 0=0) ⟨k,h⟩
 ·rw [List.getD_eq_getElem?_getD,List.getElem?_eq_none (by show 16<=k;omega)];rfl
structure Ak where
 k:Int
 a:Int
 n:Int
def wordR:List Ak->Int->Int
 | [],_=>0
 | x :: r,p=>if x.k=2 then 0 else if x.k=1/\x.a=p then x.n else wordR r p
def wordA (ks:List Ak) (p:Int):Int:=wordR ks.reverse p
def cntStep (p:Int) (s:Int) (x:Ak):Int:=if x.k=3/\x.a=p then addW s x.n else s
def countA (ks:List Ak) (p:Int):Int:=ks.foldl (cntStep p) 0
def Ak.nil:Ak:=⟨0,0,0⟩
theorem wordA_snoc (b:List Ak)(x:Ak)(p:Int):wordA (b++[x]) p=if x.k=2 then 0 else if x.k=1/\x.a=p then x.n else wordA b p:=by
 unfold wordA;rw [List.reverse_append]
 rfl
theorem countA_snoc (a:List Ak)(x:Ak)(p:Int):countA (a++[x]) p=cntStep p (countA a p) x:=by
 unfold countA;rw [List.foldl_append]
 rfl
theorem ak_take (a:List Ak){k:Nat}(h:k<a.length):a.take (k+1)=a.take k++[a.getD k Ak.nil]:=by
 rw [List.take_succ_eq_append_getElem h];simp [List.getD,h]
structure Tie (ks:List Ak) (ws cs:List Int):Prop where
 lw:ws.length=16
 lc:cs.length=16
 w:∀ k:Nat,k<16->ws.getD k 0=wordA ks k
 c:∀ k:Nat,k<16->cs.getD k 0=countA ks k
theorem Tie.nil:Tie [] nought nought:=⟨rfl,rfl,fun k _=>nought_at0 k,fun k _=>nought_at0 k⟩
theorem Tie.store {b:List Ak}{ws cs:List Int}(h:Tie b ws cs){a:Nat}(f:a<16)(n:Int):Tie (b++[⟨1,a,n⟩]) (ws.set a n) cs:=by
 refine ⟨by simp [h.lw],h.lc,fun k d=>?_,fun k d=>?_⟩
 ·rw [getD_setI _ _ _ (by rw [h.lw];exact f),wordA_snoc]
  show _=if (1:Int)=2 then 0 else if (1:Int)=1/\(a:Int)=k then n else wordA b k
  by_cases e:k=a
  ·rw [if_pos e,if_neg (show ¬ (1:Int)=2 by omega),if_pos ⟨rfl,by omega⟩]
  ·rw [if_neg e,if_neg (show ¬ (1:Int)=2 by omega),if_neg (by omega),h.w k d]
 ·rw [countA_snoc,h.c k d]
  show _=if (1:Int)=3/\(a:Int)=k then _ else countA b k
  rw [if_neg (by omega)]
theorem Tie.wipe {a:List Ak}{ws cs:List Int}(h:Tie a ws cs):Tie (a++[⟨2,0,0⟩]) nought cs:=by
 refine ⟨rfl,h.lc,fun k b=>?_,fun k b=>?_⟩
 ·rw [wordA_snoc,nought_at0]
  show _=if (2:Int)=2 then (0:Int) else _
  rw [if_pos rfl]
 ·rw [countA_snoc,h.c k b]
  show _=if (2:Int)=3/\(0:Int)=k then _ else countA a k
  rw [if_neg (by omega)]
theorem Tie.up {b:List Ak}{ws cs:List Int}(h:Tie b ws cs){a:Nat}(f:a<16)(n:Int):Tie (b++[⟨3,a,n⟩]) ws (cs.set a (addW (cs.getD a 0) n)):=by
 refine ⟨h.lw,by simp [h.lc],fun k d=>?_,fun k d=>?_⟩
 ·rw [wordA_snoc,h.w k d]
  show _=if (3:Int)=2 then 0 else if (3:Int)=1/\(a:Int)=k then n else wordA b k
  rw [if_neg (by omega),if_neg (by omega)]
 ·rw [getD_setI _ _ _ (by rw [h.lc];exact f),countA_snoc]
  show _=if (3:Int)=3/\(a:Int)=k then addW (countA b k) n else countA b k
  by_cases e:k=a
  ·subst e;rw [if_pos rfl,if_pos ⟨rfl,rfl⟩,h.c k d]
  ·rw [if_neg e,if_neg (by omega),h.c k d]
end Go.Proofs.YtmdhljoicnommaaGreat
