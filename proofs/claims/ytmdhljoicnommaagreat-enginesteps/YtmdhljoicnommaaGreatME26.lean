/-
  S10Meth
  S10Raise
  S10Totals
  S10Awake
  W10Marks
  W10Totals
  S10Ask
-/
import Derived.Test.YtmdhljoicnommaaGreatME24
import Derived.Deep.RegionHeld3
import Derived.Lib.MinMax
import Derived.Lib.SliceRun
namespace Go.Proofs.YtmdhljoicnommaaGreat
set_option maxHeartbeats 12800000
open Go.RowKit
set_option linter.unusedVariables false
set_option linter.unusedSimpArgs false
set_option maxRecDepth 100000
def qBx (xs:List Int):List Value:=xs.map (Value.int .u64)
structure Sc (w:World) (b:Nat) (ws cs:List Int):Prop where
 hp:Hp w b 59 (qBx ws++qBx cs)
 lw:ws.length=16
 lc:cs.length=16
def nought:List Int:=List.replicate 16 0
theorem qEx (xs:List Int):(qBx xs).length=xs.length:=by simp [qBx]
theorem yFv (xs:List Int){k:Nat}(h:k<xs.length):(qBx xs)[k]? = some (U8 (xs.getD k 0)):=by
 simp [qBx,List.getD,List.getElem?_eq_getElem h]
theorem yDd (xs:List Int)(k:Nat)(n:Int):(qBx xs).set k (U8 n)=qBx (xs.set k n):=by
 simp [qBx,List.map_set]
theorem Sc.word {w:World}{b:Nat}{ws cs:List Int}(h:Sc w b ws cs){k:Nat}(a:k<16):w.cell? ⟨b,k,none⟩=some (U8 (ws.getD k 0)):=by
 refine h.hp.cell ?_;rw [List.getElem?_append_left (by rw [qEx,h.lw];exact a)];exact yFv ws (by rw [h.lw];exact a)
theorem Sc.count {w:World}{b:Nat}{ws cs:List Int}(h:Sc w b ws cs){k:Nat}(a:k<16):w.cell? ⟨b,16+k,none⟩=some (U8 (cs.getD k 0)):=by
 refine h.hp.cell ?_;rw [List.getElem?_append_right (by rw [qEx,h.lw];omega),qEx,h.lw,show 16+k-16=k by omega];exact yFv cs (by rw [h.lc];exact a)
theorem Sc.setW {w:World}{b:Nat}{ws cs:List Int}(h:Sc w b ws cs){k:Nat}(a:k<16)(n:Int):Sc (w.setCell ⟨b,k,none⟩ (U8 n)) b (ws.set k n) cs:=by
 refine ⟨?_,by simp [h.lw],h.lc⟩;have:=h.hp.set k (U8 n);rw [List.set_append_left _ _ (by rw [qEx,h.lw];exact a),yDd] at this;exact this
theorem Sc.setC {w:World}{b:Nat}{ws cs:List Int}(h:Sc w b ws cs){k:Nat}(a:k<16)(n:Int):Sc (w.setCell ⟨b,16+k,none⟩ (U8 n)) b ws (cs.set k n):=by
 refine ⟨?_,h.lw,by simp [h.lc]⟩;have:=h.hp.set (16+k) (U8 n);rw [List.set_append_right _ _ (by rw [qEx,h.lw];omega),qEx,h.lw,show 16+k-16=k by omega,yDd] at this;exact this
theorem Sc.lt {w:World}{b:Nat}{ws cs:List Int}(h:Sc w b ws cs):b<w.heap.size:=h.hp.lt
theorem Sc.below {w a:World}{b B:Nat}{ws cs:List Int}(h:Sc w b ws cs)(c:Below B w a)(d:b<B):Sc a b ws cs:=⟨h.hp.below c d,h.lw,h.lc⟩
theorem Sc.grown {w a:World}{b:Nat}{ws cs:List Int}{row:Option Nat}(h:Sc w b ws cs)(d:w.grownBy a row)(c:some b≠row):Sc a b ws cs:=⟨h.hp.grown d c,h.lw,h.lc⟩
theorem Sc.drew {w:World}{b:Nat}{ws cs:List Int}(h:Sc w b ws cs):Sc w.drew b ws cs:=⟨h.hp.drew,h.lw,h.lc⟩
def inB (at':Int):Bool:=decide (0<=at'/\at'<16)
theorem yFs (a m:Int)(w:World):Cl 27 #[I4 a,I4 m] w fun e c=>e=.returned (.bool (decide (0<=a/\a<m)))/\c=w:=by
 by_cases h1:0<=a
 ·by_cases h2:a<m
  ·have b:decide (0<=a/\a<m)=true:=decide_eq_true ⟨h1,h2⟩;rw [b];go_enter Tryz.func27,Tryz.ntmps27;go_wp2;go_ret;exact ⟨rfl,rfl⟩
  ·have b:decide (0<=a/\a<m)=false:=decide_eq_false (fun h=>h2 h.2);rw [b];go_enter Tryz.func27,Tryz.ntmps27;go_wp2;go_ret;exact ⟨rfl,rfl⟩
 ·have b:decide (0<=a/\a<m)=false:=decide_eq_false (fun h=>h1 h.1);rw [b];go_enter Tryz.func27,Tryz.ntmps27;go_wp2;go_ret;exact ⟨rfl,rfl⟩
theorem yGt (w:World):Cl 10 #[] w fun e a=>e=.returned (.pointer (some ⟨w.heap.size,0,none⟩))/\Sc a w.heap.size nought nought/\a.heap.size=w.heap.size+1/\Bw w a:=by
 go_enter Tryz.func10,Tryz.ntmps10;go_wp2;go_ret;exact ⟨rfl,⟨Hp.new w _ _,rfl,rfl⟩,by simp,(Below.refl _ _).alloc (Nat.le_refl _) _⟩
theorem qJv {a:Int}{r:Bool}(h:Hid (inB a=r))(w:World):Cl 27 #[I4 a,I4 16] w fun e b=>e=.returned (.bool r)/\b=w:=by
 rw [<- h.out];exact yFs a 16 w
theorem ySb (a:Int){b:Nat}{ws cs:List Int}(w:World)(h:Sc w b ws cs):Cl 57 #[.pointer (some ⟨b,0,none⟩),I4 a] w fun e f=>e=.returned (.tuple #[U8 (if inB a then ws.getD a.toNat 0 else 0),I4 (if inB a then 0 else 35)])/\f=w:=by
 cases hi:inB a with
 | false =>
  have d:Hid (inB a=false):=hi;clear hi;go_enter Tryz.func57,Tryz.ntmps57
  go_wp2_with (go_at_call 27;go_must (refine (qJv d _).mono ?_);rintro e i ⟨rfl,rfl⟩)
  go_ret2;exact ⟨rfl,rfl⟩
 | true =>
  have d:Hid (inB a=true):=hi;obtain ⟨h0,l⟩:0<=a/\a<16:=of_decide_eq_true hi;obtain ⟨k,rfl⟩:∃ k:Nat,a=k:=⟨a.toNat,by omega⟩;have c:=h.word (k:=k) (by omega);obtain ⟨x,g⟩:∃ x,Hid (ws.getD k 0=x):=⟨_,rfl⟩;rw [Int.toNat_natCast];rw [g.out] at c ⊢;clear hi;go_enter Tryz.func57,Tryz.ntmps57
  go_wp2_with (go_at_call 27;go_must (refine (qJv d _).mono ?_);rintro e i ⟨rfl,rfl⟩)
  go_ret2;exact ⟨rfl,rfl⟩
theorem qYk (a n:Int){b:Nat}{ws cs:List Int}(w:World)(h:Sc w b ws cs):Cl 12 #[.pointer (some ⟨b,0,none⟩),I4 a,U8 n] w fun e d=>e=.returned (I4 (if inB a then 0 else 35))/\Sc d b (if inB a then ws.set a.toNat n else ws) cs/\w.grownBy d (some b)/\d.heap.size=w.heap.size:=by
 cases hi:inB a with
 | false =>
  have i:Hid (inB a=false):=hi;have g:Hid (Sc w b ws cs):=h;clear hi h;go_enter Tryz.func12,Tryz.ntmps12
  go_wp2_with (go_at_call 27;go_must (refine (qJv i _).mono ?_);rintro e l ⟨rfl,rfl⟩)
  go_ret;exact ⟨rfl,g.out,qIz _ _,rfl⟩
 | true =>
  have i:Hid (inB a=true):=hi;obtain ⟨h0,o⟩:0<=a/\a<16:=of_decide_eq_true hi;obtain ⟨k,rfl⟩:∃ k:Nat,a=k:=⟨a.toNat,by omega⟩;have c:=h.word (k:=k) (by omega);have f:=h.hp.frozen k;have g:Hid (Sc w b ws cs):=h;rw [Int.toNat_natCast];clear hi h;go_enter Tryz.func12,Tryz.ntmps12
  go_wp2_with (go_at_call 27;go_must (refine (qJv i _).mono ?_);rintro e l ⟨rfl,rfl⟩)
  go_ret;exact ⟨rfl,g.out.setW (by omega) n,qAc _ _ _ _,by simp [World.setCell]⟩

theorem xCl (ws:List Int)(cs:List Int)(h:ws.length=16):qEr (qBx ws++qBx cs) 0 (List.replicate 16 (Value.int .u64 0))=qBx nought++qBx cs:=by
 rw [qSc _ _ _ _ (by simp [qEx,h]),qBo _ _ (by simp [qEx,h])]
 rfl
theorem yUn {b:Nat}{ws cs:List Int}(w:World)(h:Sc w b ws cs):Cl 24 #[.pointer (some ⟨b,0,none⟩)] w fun e f=>e=.returned (.tuple #[])/\Sc f b nought cs/\w.grownBy f (some b):=by
 have c:Hid (Sc w b ws cs):=h
 have i:∀ a,(Builtin.clear_ #[67] a #[.slice (some ⟨b,0,none⟩) 16 16]).run Tryz.prog w=.ok (.tuple #[]) (w.setCells b 0 (List.replicate 16 (U8 0))):=fun a =>
  Lib.run_clear_slice w 67 26 a (U8 0) Tryz.underlying67 (fun w=>by kernel_rfl) rfl rfl b 0 16 16 (by omega) (fun j g=>by rw [Nat.zero_add,h.word g];rfl) (fun j g=>h.hp.frozen _)
 clear h;go_enter Tryz.func24,Tryz.ntmps24;go_wp2;have d:=c.out.hp.sets (List.replicate 16 (Value.int .u64 0)) 0;rw [xCl ws cs c.out.lw] at d;exact bodyPost_end (results_none rfl _ _ _) rfl ⟨rfl,⟨d,rfl,c.out.lc⟩,qAd _ _ _ _⟩
def qKa (a b:Int):Int:=(a+b)%18446744073709551616
def yAe (cs:List Int) (k:Nat):List Int:=cs.set k (qKa (cs.getD k 0) 1)
theorem ySt (a:Int){b:Nat}{ws cs:List Int}(w:World)(h:Sc w b ws cs):Cl 54 #[.pointer (some ⟨b,16,none⟩),I4 a] w fun e d=>e=.returned (.tuple #[U8 (if inB a then qKa (cs.getD a.toNat 0) 1 else 0),I4 (if inB a then 0 else 35)])/\Sc d b ws (if inB a then yAe cs a.toNat else cs)/\w.grownBy d (some b)/\d.heap.size=w.heap.size:=by
 cases hi:inB a with
 | false =>
  have i:Hid (inB a=false):=hi;have g:Hid (Sc w b ws cs):=h;clear hi h;go_enter Tryz.func54,Tryz.ntmps54
  go_wp2_with (go_at_call 27;go_must (refine (qJv i _).mono ?_);rintro e n ⟨rfl,rfl⟩)
  go_ret2;exact ⟨rfl,g.out,qIz _ _,rfl⟩
 | true =>
  have i:Hid (inB a=true):=hi;obtain ⟨h0,o⟩:0<=a/\a<16:=of_decide_eq_true hi;obtain ⟨k,rfl⟩:∃ k:Nat,a=k:=⟨a.toNat,by omega⟩;have c:=h.count (k:=k) (by omega);have f:=h.hp.frozen (16+k);have g:Hid (Sc w b ws cs):=h;rw [Int.toNat_natCast];obtain ⟨x,l⟩:∃ x,Hid (cs.getD k 0=x):=⟨_,rfl⟩;unfold yAe;rw [l.out] at c ⊢;clear hi h;go_enter Tryz.func54,Tryz.ntmps54
  go_wp2_with (go_at_call 27;go_must (refine (qJv i _).mono ?_);rintro e n ⟨rfl,rfl⟩)
  go_region
  all_goals go_wp2
  all_goals go_ret2
  all_goals exact ⟨rfl,g.out.drew.setC (by omega) _,qHc (qAc _ _ _ _),by simp [World.setCell]⟩
def qHs (cs xs:List Int) (k:Nat):List Int:=(List.range 16).map fun i=>if i<k/\i<xs.length then qKa (cs.getD i 0) (xs.getD i 0) else cs.getD i 0
def qVm (cs xs:List Int):List Int:=qHs cs xs 16
theorem qJr (cs xs:List Int)(k:Nat):(qHs cs xs k).length=16:=by simp [qHs]
theorem qKt (cs xs:List Int)(k:Nat){i:Nat}(h:i<16):(qHs cs xs k).getD i 0=if i<k/\i<xs.length then qKa (cs.getD i 0) (xs.getD i 0) else cs.getD i 0:=by
 simp [qHs,List.getD,List.getElem?_range h]
theorem yCq {xs a:List Int}(c:xs.length=16)(d:a.length=16)(h:∀ i,i<16->xs.getD i 0=a.getD i 0):xs=a:=by
 apply List.ext_getElem (by omega)
 intro i hi b;have:=h i (by omega)
 simpa [List.getD,List.getElem?_eq_getElem hi,List.getElem?_eq_getElem b] using this
theorem qRy {xs:List Int}(k i:Nat)(n:Int)(h:k<xs.length):(xs.set k n).getD i 0=if i=k then n else xs.getD i 0:=by
 by_cases hik:i=k
 ·subst hik;simp [List.getD,h]
 ·simp [List.getD,List.getElem?_set,hik,Ne.symm hik]
theorem qVj {cs:List Int}(xs:List Int)(h:cs.length=16):qHs cs xs 0=cs:=yCq (qJr _ _ _) h fun i hi=>by rw [qKt _ _ _ hi,if_neg (by omega)]
theorem qVu {cs xs:List Int}{k:Nat}(a:k<16)(b:k<xs.length):(qHs cs xs k).set k (qKa ((qHs cs xs k).getD k 0) (xs.getD k 0))=qHs cs xs (k+1):=yCq (by simp [qJr]) (qJr _ _ _) fun i hi=>by
 rw [qRy _ _ _ (by rw [qJr];exact a),qKt _ _ _ hi,qKt _ _ _ hi,qKt _ _ _ a]
 by_cases hik:i=k
 ·subst hik;rw [if_pos rfl,if_neg (by omega),if_pos (by omega)]
 ·rw [if_neg hik]
  by_cases h:i<k/\i<xs.length
  ·rw [if_pos h,if_pos (by omega)]
  ·rw [if_neg h,if_neg (by omega)]
theorem qYv {cs xs:List Int}{m:Nat}(h:(m:Int)=min (xs.length:Int) 16):qHs cs xs m=qVm cs xs:=yCq (qJr _ _ _) (qJr _ _ _) fun i hi=>by
 unfold qVm;rw [qKt _ _ _ hi,qKt _ _ _ hi]
 by_cases h2:i<m/\i<xs.length
 ·rw [if_pos h2,if_pos (by omega)]
 ·rw [if_neg h2,if_neg (by omega)]
theorem Sees.grown {k:IntKind}{w s:World}{g o n c b:Nat}{xs:List Int}(h:Sees k w (.slice (some ⟨g,o,none⟩) n c) xs)(y:w.grownBy s (some b))(l:g≠b):Sees k s (.slice (some ⟨g,o,none⟩) n c) xs:=by
 obtain ⟨a,cap,u,B,hm,r,A,z⟩:=h;refine ⟨a,cap,u,B,hm,r,A,fun F=>?_⟩;obtain ⟨b',off,rfl,f,D⟩:=z F;injection u with d I G;injection d with d;injection d with d E;subst d E;exact ⟨_,_,rfl,Nat.lt_of_lt_of_le f y.size,fun i hi=>(World.cell?_of_block (y.block _ f (fun e=>l (by injection e)))).trans (D i hi)⟩
theorem yPd {b:Nat}{ws cs xs:List Int}{v:Value}(w:World)(h:Sc w b ws cs)(o:∀ c,w.grownBy c (some b)->Sees .u64 c v xs):Cl 13 #[.pointer (some ⟨b,16,none⟩),v] w fun e c=>e=.returned (.tuple #[])/\Sc c b ws (qVm cs xs)/\w.grownBy c (some b)/\c.heap.size=w.heap.size:=by
 obtain ⟨a,cap,rfl,U,A,z,F,d⟩:=o w (qIz _ _);unfold maxLen at A;have I:Hid (∀ c,w.grownBy c (some b)->Sees .u64 c (.slice a xs.length cap) xs):=o;have D:Hid (Sc w b ws cs):=h;obtain ⟨m,hm⟩:∃ m:Nat,min (xs.length:Int) 16=m:=⟨min xs.length 16,by omega⟩
 have n:m<=xs.length:=by omega
 have Q:m<=16:=by omega
 clear o h d F z;go_enter Tryz.func13,Tryz.ntmps13;go_wp2
 go_loopw [4,8] (fun _ i wr=>∃ k:Nat,k<=m/\i=I4 k/\Hid (Sc wr b ws (qHs cs xs k))/\Hid (w.grownBy wr (some b))/\Hid (wr.heap.size=w.heap.size)) (fun _ i _=>m-(intOf i).toNat)
 case atStart=>exact ⟨0,by omega,rfl,by rw [qVj _ D.out.lc];exact D.out,qIz _ _,rfl⟩
 case round =>
  obtain ⟨k,Y,rfl,l,u,G⟩:=hrel
  by_cases hlt:k<m
  ·obtain ⟨X,L,K,_,_,_,_,d⟩:=I.out wr u.out;obtain ⟨g,off,O,R,B⟩:=d (fun e=>by rw [e] at n;simp at n;omega);injection K with P V N;subst P N;subst O;have J:=B k (by omega);have M:=l.out.count (k:=k) (by omega);have f:=l.out.hp.frozen (16+k)
   have S:(k:Int)<16:=by omega
   have T:(k:Int)<xs.length:=by omega
   obtain ⟨x,s⟩:∃ x,Hid (xs.getD k 0=x):=⟨_,rfl⟩;obtain ⟨y,r⟩:∃ y,Hid ((qHs cs xs k).getD k 0=y):=⟨_,rfl⟩;rw [s.out] at J;rw [r.out] at M
   have E:Hid (Sc (wr.setCell ⟨b,16+k,none⟩ (U8 (qKa y x))) b ws (qHs cs xs (k+1))):=by
    have:=l.out.setC (k:=k) (by omega) (qKa y x);rw [<- s.out,<- r.out,qVu (by omega) (by omega)] at this;rw [<- s.out,<- r.out];exact this
   clear B d;go_wp2;go_region
   all_goals go_wp2
   all_goals go_roundw
   case rel=>exact ⟨k+1,by omega,by go_num,E.out.drew,qCd u.out (qCb (qAc _ _ _ _)),by have:=G.out;show _=_;simpa [World.setCell] using this⟩
   case measure=>simp [intOf];omega
  ·obtain rfl:k=m:=by omega
   go_wp2;refine bodyPost_end (results_none rfl _ _ _) rfl ⟨rfl,?_,u.out,G.out⟩;rw [<- qYv hm.symm];exact l.out
theorem yYb {a x r:Int}{b:Nat}{ws cs:List Int}(d:Hid ((if inB a then ws.getD a.toNat 0 else 0)=x))(f:Hid ((if inB a then 0 else 35:Int)=r))(w:World)(h:Sc w b ws cs):Cl 57 #[.pointer (some ⟨b,0,none⟩),I4 a] w fun e c=>e=.returned (.tuple #[U8 x,I4 r])/\c=w:=by
 rw [<- d.out,<- f.out];exact ySb a w h
theorem yXg {a n r:Int}{b:Nat}{ws cs d:List Int}(f:Hid ((if inB a then ws.set a.toNat n else ws)=d))(g:Hid ((if inB a then 0 else 35:Int)=r))(w:World)(h:Sc w b ws cs):Cl 12 #[.pointer (some ⟨b,0,none⟩),I4 a,U8 n] w fun e c=>e=.returned (I4 r)/\Sc c b d cs/\w.grownBy c (some b)/\c.heap.size=w.heap.size:=by
 rw [<- f.out,<- g.out];exact qYk a n w h
theorem yYg {a x r:Int}{b:Nat}{ws cs d:List Int}(g:Hid ((if inB a then qKa (cs.getD a.toNat 0) 1 else 0)=x))(i:Hid ((if inB a then yAe cs a.toNat else cs)=d))(f:Hid ((if inB a then 0 else 35:Int)=r))(w:World)(h:Sc w b ws cs):Cl 54 #[.pointer (some ⟨b,16,none⟩),I4 a] w fun e c=>e=.returned (.tuple #[U8 x,I4 r])/\Sc c b ws d/\w.grownBy c (some b)/\c.heap.size=w.heap.size:=by
 rw [<- g.out,<- i.out,<- f.out];exact ySt a w h
theorem qGr (w:World)(o:Obj):Bw w (w.alloc o):=(Below.refl _ _).alloc (Nat.le_refl _) _
theorem qPv (k:Nat):nought.getD k 0=0:=by
 by_cases h:k<16
 ·exact (by decide:∀ k:Fin 16,nought.getD k 0=0) ⟨k,h⟩
 ·rw [List.getD_eq_getElem?_getD,List.getElem?_eq_none (by show 16<=k;omega)];rfl
structure Ak where
 k:Int
 a:Int
 n:Int
def yXj:List Ak->Int->Int
 | [],_=>0
 | x :: r,p=>if x.k=2 then 0 else if x.k=1/\x.a=p then x.n else yXj r p
def qJt (ks:List Ak) (p:Int):Int:=yXj ks.reverse p
def yGu (p:Int) (s:Int) (x:Ak):Int:=if x.k=3/\x.a=p then qKa s x.n else s
def qFa (ks:List Ak) (p:Int):Int:=ks.foldl (yGu p) 0
def Ak.nil:Ak:=⟨0,0,0⟩
theorem qNc (ks:List Ak)(x:Ak)(p:Int):qJt (ks++[x]) p=if x.k=2 then 0 else if x.k=1/\x.a=p then x.n else qJt ks p:=by
 unfold qJt;rw [List.reverse_append]
 rfl
theorem qMa (ks:List Ak)(x:Ak)(p:Int):qFa (ks++[x]) p=yGu p (qFa ks p) x:=by
 unfold qFa;rw [List.foldl_append]
 rfl
theorem yGj (ks:List Ak){k:Nat}(h:k<ks.length):ks.take (k+1)=ks.take k++[ks.getD k Ak.nil]:=by
 rw [List.take_succ_eq_append_getElem h];simp [List.getD,h]
structure Tie (ks:List Ak) (ws cs:List Int):Prop where
 lw:ws.length=16
 lc:cs.length=16
 w:∀ k:Nat,k<16->ws.getD k 0=qJt ks k
 c:∀ k:Nat,k<16->cs.getD k 0=qFa ks k
theorem Tie.nil:Tie [] nought nought:=⟨rfl,rfl,fun k _=>qPv k,fun k _=>qPv k⟩
theorem Tie.store {ks:List Ak}{ws cs:List Int}(h:Tie ks ws cs){a:Nat}(d:a<16)(n:Int):Tie (ks++[⟨1,a,n⟩]) (ws.set a n) cs:=by
 refine ⟨by simp [h.lw],h.lc,fun k b=>?_,fun k b=>?_⟩
 ·rw [qRy _ _ _ (by rw [h.lw];exact d),qNc]
  show _=if (1:Int)=2 then 0 else if (1:Int)=1/\(a:Int)=k then n else qJt ks k
  by_cases e:k=a
  ·rw [if_pos e,if_neg (show ¬ (1:Int)=2 by omega),if_pos ⟨rfl,by omega⟩]
  ·rw [if_neg e,if_neg (show ¬ (1:Int)=2 by omega),if_neg (by omega),h.w k b]
 ·rw [qMa,h.c k b]
  show _=if (1:Int)=3/\(a:Int)=k then _ else qFa ks k
  rw [if_neg (by omega)]
theorem Tie.wipe {ks:List Ak}{ws cs:List Int}(h:Tie ks ws cs):Tie (ks++[⟨2,0,0⟩]) nought cs:=by
 refine ⟨rfl,h.lc,fun k a=>?_,fun k a=>?_⟩
 ·rw [qNc,qPv]
  show _=if (2:Int)=2 then (0:Int) else _
  rw [if_pos rfl]
 ·rw [qMa,h.c k a]
  show _=if (2:Int)=3/\(0:Int)=k then _ else qFa ks k
  rw [if_neg (by omega)]
theorem Tie.up {ks:List Ak}{ws cs:List Int}(h:Tie ks ws cs){a:Nat}(d:a<16)(n:Int):Tie (ks++[⟨3,a,n⟩]) ws (cs.set a (qKa (cs.getD a 0) n)):=by
 refine ⟨h.lw,by simp [h.lc],fun k b=>?_,fun k b=>?_⟩
 ·rw [qNc,h.w k b]
  show _=if (3:Int)=2 then 0 else if (3:Int)=1/\(a:Int)=k then n else qJt ks k
  rw [if_neg (by omega),if_neg (by omega)]
 ·rw [qRy _ _ _ (by rw [h.lc];exact d),qMa]
  show _=if (3:Int)=3/\(a:Int)=k then qKa (qFa ks k) n else qFa ks k
  by_cases e:k=a
  ·subst e;rw [if_pos rfl,if_pos ⟨rfl,rfl⟩,h.c k b]
  ·rw [if_neg e,if_neg (by omega),h.c k b]
def qDg (ks:List Ak) (xs:List Int):Nat->List Ak
 | 0=>ks
 | k+1=>qDg ks xs k++[⟨3,k,xs.getD k 0⟩]
theorem qTg (ks:List Ak)(xs:List Int):∀ k,(qDg ks xs k).length=ks.length+k
 | 0=>rfl
 | k+1=>by rw [qDg,List.length_append,qTg ks xs k];rfl
theorem Tie.raise {ks:List Ak}{ws cs:List Int}(h:Tie ks ws cs)(xs:List Int):∀ k,k<=16->k<=xs.length->Tie (qDg ks xs k) ws (qHs cs xs k)
 | 0,_,_=>by rw [qVj _ h.lc];exact h
 | k+1,h1,h2=>by
  have:=(Tie.raise h xs k (by omega) (by omega)).up (a:=k) (by omega) (xs.getD k 0);rw [qVu (by omega) (by omega)] at this;exact this
end Go.Proofs.YtmdhljoicnommaaGreat
