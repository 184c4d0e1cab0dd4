/-
  O2Rights
  O2One
  F7Goes
  J9Wr
-/
import Derived.Test.YtmdhljoicnommaaGreatME1
import Derived.Test.YtmdhljoicnommaaGreatME19
import Derived.Deep.RegionHeld3
namespace Go.Proofs.YtmdhljoicnommaaGreat
set_option maxHeartbeats 12800000
open Go.RowKit
set_option linter.unusedVariables false
set_option linter.unusedSimpArgs false
set_option maxRecDepth 100000 in
set_option maxHeartbeats 16000000 in
theorem qTj (bk off cap:Nat) (xs:List In) (w:World) (hc:xs.length<=cap) (hm:cap<=maxLen) (hbk:bk<w.heap.size)
  (hat:∀ k,k<xs.length->At w bk (off+k*5) (xs.getD k In.nil)):Calls Tryz.prog 127 #[.slice (some ⟨bk,off,none⟩) xs.length cap] w fun e w'=>e=.returned (.bool (xs.all In.right))/\Below w.heap.size w w':=by
 have hm:cap<=9223372036854775807:=hm
 generalize hn:xs.length=n at *
 go_enter Tryz.func127,Tryz.ntmps127
 go_wp2_with fail
 go_loopw [8] (fun i wr=>∃ k:Nat,k<=n/\i=.int .i64 k/\(xs.take k).all In.right=true/\Below w.heap.size w wr) (fun i _=>n-(intOf i).toNat)
 case atStart=>exact ⟨0,by omega,rfl,rfl,Below.refl _ _⟩
 case round =>
  obtain ⟨k,hk,rfl,hall,hbe⟩:=hrel
  have hsz:=hbe.size
  by_cases hlt:k<n
  ·obtain ⟨op,d,a,b,imm,HI⟩:∃ op d a b imm,Hid (xs.getD k In.nil=⟨op,d,a,b,imm⟩):=⟨_,_,_,_,_,rfl⟩
   have hcell:=(hat k hlt).below hbe hbk
   rw [HI.out] at hcell
   obtain ⟨h0,h1,h2,h3,h4⟩:=hcell
   simp only at h0 h1 h2 h3 h4
   have HF:Hid (qAq op d a b imm=false->xs.all In.right=false):=fun hr=>yOa (xs:=xs) (k:=k) (by omega) (by rw [HI.out];exact hr)
   have HT:Hid (qAq op d a b imm=true->(xs.take (k+1)).all In.right=true):=fun hr=>by rw [yTa (xs:=xs) (k:=k) (by omega),hall,HI.out];exact hr
   clear hat hall HI
   go_wp2_with (go_at_call 132;go_must (refine (qTn op _).mono ?_);rintro e w1 ⟨rfl,hb1⟩)
   have hz1:=hb1.size
   have hN4:wr.heap.size<w1.heap.size:=by simp at hz1;omega
   obtain ⟨c0,c1,c2,c3,c4⟩:=qDn hb1
   have hB1:Below w.heap.size w w1:=hbe.trans ((qAt hb1).mono hsz)
   clear h0 h1 h2 h3 h4 hb1 hz1
   generalize hs:qAx op=s at *
   generalize hn4:wr.heap.size=n4 at *
   generalize hW0:w1.alloc _=W0
   have HH:Held n4 w1.heap.size op d a b imm s W0:=by
    subst hW0
    simp [Held,World.cell?_alloc_past,hN4,c0,c1,c2,c3,c4]
   have hB0:Below w.heap.size w W0:=by subst hW0;exact hB1.alloc (by omega) _
   have hz0:W0.heap.size=w1.heap.size+1:=by subst hW0;simp
   clear hW0 c0 c1 c2 c3 c4
   generalize hn5:w1.heap.size=n5 at *
   clear hB1 hn4 hn5
   refine wp_region_held_drew (S:=Held n4 n5 op d a b imm s) (by kernel_rfl) HH (fun hHeld=>?_)
   clear HH
   refine wpAnyH_take (i:=0) (v:=s.v) rfl (by kernel_rfl) (by kernel_rfl) (by kernel_rfl) (fun _ _ _ h=>h) (Or.inl ⟨by rfl,fun wy hSw=>?_⟩) (by assumption) ?_
   ·obtain ⟨⟨d0,d1,d2,d3,d4⟩,e0,e1,e2,e3,e4,e5,e6⟩:=hSw
    go_simp
   simp only [Act.put,p1q,p2q,p3q,p4q,p5q,p6q]
   refine wpAnyH_take (i:=1) (v:=Shape.v ⟨false,false,false,0,0,0,0⟩) rfl (by kernel_rfl) (by kernel_rfl) (by kernel_rfl) (fun _ _ _ h=>h) (Or.inl ⟨by rfl,fun wy hSw=>?_⟩) (by assumption) ?_
   ·obtain ⟨⟨d0,d1,d2,d3,d4⟩,e0,e1,e2,e3,e4,e5,e6⟩:=hSw
    go_simp
   simp only [Act.put,p1q,p2q,p3q,p4q,p5q,p6q]
   refine wpAnyH_take (i:=2) (v:=.bool s.zero) rfl (by kernel_rfl) (by kernel_rfl) (by kernel_rfl) (fun _ _ _ h=>h) (Or.inl ⟨by rfl,fun wy hSw=>?_⟩) (by assumption) ?_
   ·obtain ⟨⟨d0,d1,d2,d3,d4⟩,e0,e1,e2,e3,e4,e5,e6⟩:=hSw
    go_simp
    exact ySs s (fun c=>Result.ok (Next.value (Value.bool c)) wy)
   simp only [Act.put,p1q,p2q,p3q,p4q,p5q,p6q]
   refine wpAnyH_take (i:=3) (v:=.bool s.zero) rfl (by kernel_rfl) (by kernel_rfl) (by kernel_rfl) (fun _ _ _ h=>h) (Or.inl ⟨by rfl,fun wy hSw=>?_⟩) (by assumption) ?_
   ·obtain ⟨⟨d0,d1,d2,d3,d4⟩,e0,e1,e2,e3,e4,e5,e6⟩:=hSw
    go_simp
   simp only [Act.put,p1q,p2q,p3q,p4q,p5q,p6q]
   cases hz:s.zero
   ·have ho:=xAp (hs ▸ hz)
    refine wpAnyH_take (i:=4) (v:=qAl op d a b imm) rfl (by kernel_rfl) (by kernel_rfl) (by kernel_rfl) (fun _ _ _ h=>h) (Or.inl ⟨by rfl,fun wy hSw=>?_⟩) (by assumption) ?_
    ·obtain ⟨⟨d0,d1,d2,d3,d4⟩,e0,e1,e2,e3,e4,e5,e6⟩:=hSw
     go_simp
    simp only [Act.put,p1q,p2q,p3q,p4q,p5q,p6q]
    refine wpAnyH_take (i:=5) (v:=s.v) rfl (by kernel_rfl) (by kernel_rfl) (by kernel_rfl) (fun _ _ _ h=>h) (Or.inl ⟨by rfl,fun wy hSw=>?_⟩) (by assumption) ?_
    ·obtain ⟨⟨d0,d1,d2,d3,d4⟩,e0,e1,e2,e3,e4,e5,e6⟩:=hSw
     go_simp
    simp only [Act.put,p1q,p2q,p3q,p4q,p5q,p6q]
    refine wpAnyH_take (i:=6) (v:=qAl op d a b imm) rfl (by kernel_rfl) (by kernel_rfl) (by kernel_rfl) (fun _ _ _ h=>h) (Or.inl ⟨by rfl,fun wy hSw=>?_⟩) (by assumption) ?_
    ·obtain ⟨⟨d0,d1,d2,d3,d4⟩,e0,e1,e2,e3,e4,e5,e6⟩:=hSw
     go_simp
    simp only [Act.put,p1q,p2q,p3q,p4q,p5q,p6q]
    refine wpAnyH_ready (rs:=[7]) (by kernel_rfl) (by simp) ?_
    refine AllReadyH.cons rfl (fun K hK=>?_) AllReadyH.nil
    rw [if_pos (by rfl)]
    go_simp
    go_at_call 148
    have hcon:=yOu op d a b imm W0.drew ho
    rw [hs] at hcon
    refine hcon.mono ?_
    clear hcon
    rintro e wN ⟨⟨jo,jd,ja,jb,ji⟩,rfl,hbN,hrt⟩
    have HR:Hid (qAq op d a b imm=_):=hrt
    clear hrt
    have hbN:=(Below.refl W0.heap.size W0).drew.trans hbN
    have hBN:=hB0.trans (hbN.mono (by omega))
    have hzN:=hbN.size
    have hHeld:Held n4 n5 op d a b imm s W0:=hHeld
    refine hK.out _ _ (Held.below hHeld hbN (by omega) (by omega)) (fun hHeld=>?_)
    clear hK hbN
    try simp only [Act.put,p1q,p2q,p3q,p4q,p5q,p6q]
    refine wpAnyH_take (i:=8) (v:=.bool (neI ⟨op,d,a,b,imm⟩ ⟨jo,jd,ja,jb,ji⟩)) rfl (by kernel_rfl) (by kernel_rfl) (by kernel_rfl) (fun _ _ _ h=>h) (Or.inl ⟨by rfl,fun wy hSw=>?_⟩) (by assumption) ?_
    ·obtain ⟨⟨d0,d1,d2,d3,d4⟩,e0,e1,e2,e3,e4,e5,e6⟩:=hSw
     go_simp
     exact xBl ⟨op,d,a,b,imm⟩ ⟨jo,jd,ja,jb,ji⟩ (fun c=>Result.ok (Next.value (Value.bool c)) wy)
    simp only [Act.put,p1q,p2q,p3q,p4q,p5q,p6q]
    refine wpAnyH_take (i:=9) (v:=.bool (neI ⟨op,d,a,b,imm⟩ ⟨jo,jd,ja,jb,ji⟩)) rfl (by kernel_rfl) (by kernel_rfl) (by kernel_rfl) (fun _ _ _ h=>h) (Or.inl ⟨by rfl,fun wy hSw=>?_⟩) (by assumption) ?_
    ·obtain ⟨⟨d0,d1,d2,d3,d4⟩,e0,e1,e2,e3,e4,e5,e6⟩:=hSw
     go_simp
    simp only [Act.put,p1q,p2q,p3q,p4q,p5q,p6q]
    refine wpAnyH_take (i:=10) (v:=.bool (neI ⟨op,d,a,b,imm⟩ ⟨jo,jd,ja,jb,ji⟩)) rfl (by kernel_rfl) (by kernel_rfl) (by kernel_rfl) (fun _ _ _ h=>h) (Or.inl ⟨by rfl,fun wy hSw=>?_⟩) (by assumption) ?_
    ·obtain ⟨⟨d0,d1,d2,d3,d4⟩,e0,e1,e2,e3,e4,e5,e6⟩:=hSw
     go_simp
    simp only [Act.put,p1q,p2q,p3q,p4q,p5q,p6q]
    cases hne:neI ⟨op,d,a,b,imm⟩ ⟨jo,jd,ja,jb,ji⟩
    ·rw [hne] at HR
     refine wpAnyH_take (i:=11) (v:=s.v) rfl (by kernel_rfl) (by kernel_rfl) (by kernel_rfl) (fun _ _ _ h=>h) (Or.inl ⟨by rfl,fun wy hSw=>?_⟩) (by assumption) ?_
     ·obtain ⟨⟨d0,d1,d2,d3,d4⟩,e0,e1,e2,e3,e4,e5,e6⟩:=hSw
      go_simp
     simp only [Act.put,p1q,p2q,p3q,p4q,p5q,p6q]
     refine wpAnyH_take (i:=12) (v:=qAl op d a b imm) rfl (by kernel_rfl) (by kernel_rfl) (by kernel_rfl) (fun _ _ _ h=>h) (Or.inl ⟨by rfl,fun wy hSw=>?_⟩) (by assumption) ?_
     ·obtain ⟨⟨d0,d1,d2,d3,d4⟩,e0,e1,e2,e3,e4,e5,e6⟩:=hSw
      go_simp
     simp only [Act.put,p1q,p2q,p3q,p4q,p5q,p6q]
     refine wpAnyH_ready (rs:=[13]) (by kernel_rfl) (by simp) ?_
     refine AllReadyH.cons rfl (fun K hK=>?_) AllReadyH.nil
     rw [if_pos (by rfl)]
     go_simp
     go_at_call 149
     refine (yTo s op d a b imm wN).mono ?_
     rintro e wF ⟨rfl,hbF⟩
     have hBF:=hBN.trans (hbF.mono (by omega))
     refine hK.out _ _ (Held.below hHeld hbF (by omega) (by omega)) (fun hHeld=>?_)
     clear hK hbF
     try simp only [Act.put,p1q,p2q,p3q,p4q,p5q,p6q]
     refine wpAnyH_take (i:=14) (v:=.bool (!qBs s.dest s.source s.farL s.farM s.immL s.immM d a b imm)) rfl (by kernel_rfl) (by kernel_rfl) (by kernel_rfl) (fun _ _ _ h=>h) (Or.inl ⟨by rfl,fun wy hSw=>?_⟩) (by assumption) ?_
     ·obtain ⟨⟨d0,d1,d2,d3,d4⟩,e0,e1,e2,e3,e4,e5,e6⟩:=hSw
      go_simp
     simp only [Act.put,p1q,p2q,p3q,p4q,p5q,p6q]
     refine wpAnyH_take (i:=15) (v:=.bool (!qBs s.dest s.source s.farL s.farM s.immL s.immM d a b imm)) rfl (by kernel_rfl) (by kernel_rfl) (by kernel_rfl) (fun _ _ _ h=>h) (Or.inl ⟨by rfl,fun wy hSw=>?_⟩) (by assumption) ?_
     ·obtain ⟨⟨d0,d1,d2,d3,d4⟩,e0,e1,e2,e3,e4,e5,e6⟩:=hSw
      go_simp
     simp only [Act.put,p1q,p2q,p3q,p4q,p5q,p6q]
     refine wpAnyH_done (by kernel_rfl) ?_ _
     clear hHeld
     cases hfit:qBs s.dest s.source s.farL s.farM s.immL s.immM d a b imm
     ·rw [hfit] at HR
      go_wp2
      go_ret
      exact ⟨r2b (HF.out HR.out).symm,hBF⟩
     ·rw [hfit] at HR
      go_wp2
      go_roundw
      case rel=>exact ⟨k+1,by omega,by go_num,HT.out HR.out,hBF⟩
      case measure=>simp [intOf];omega
    ·rw [hne] at HR
     refine wpAnyH_take (i:=11) (v:=undef) rfl (by kernel_rfl) (by kernel_rfl) (by kernel_rfl) (fun _ _ _ h=>h) (Or.inr ⟨by rfl,rfl⟩) (by assumption) ?_
     simp only [Act.put,p1q,p2q,p3q,p4q,p5q,p6q]
     refine wpAnyH_take (i:=12) (v:=undef) rfl (by kernel_rfl) (by kernel_rfl) (by kernel_rfl) (fun _ _ _ h=>h) (Or.inr ⟨by rfl,rfl⟩) (by assumption) ?_
     simp only [Act.put,p1q,p2q,p3q,p4q,p5q,p6q]
     refine wpAnyH_take (i:=13) (v:=undef) rfl (by kernel_rfl) (by kernel_rfl) (by kernel_rfl) (fun _ _ _ h=>h) (Or.inr ⟨by rfl,rfl⟩) (by assumption) ?_
     simp only [Act.put,p1q,p2q,p3q,p4q,p5q,p6q]
     refine wpAnyH_take (i:=14) (v:=undef) rfl (by kernel_rfl) (by kernel_rfl) (by kernel_rfl) (fun _ _ _ h=>h) (Or.inr ⟨by rfl,rfl⟩) (by assumption) ?_
     simp only [Act.put,p1q,p2q,p3q,p4q,p5q,p6q]
     refine wpAnyH_take (i:=15) (v:=.bool true) rfl (by kernel_rfl) (by kernel_rfl) (by kernel_rfl) (fun _ _ _ h=>h) (Or.inl ⟨by rfl,fun wy hSw=>?_⟩) (by assumption) ?_
     ·obtain ⟨⟨d0,d1,d2,d3,d4⟩,e0,e1,e2,e3,e4,e5,e6⟩:=hSw
      go_simp
     simp only [Act.put,p1q,p2q,p3q,p4q,p5q,p6q]
     refine wpAnyH_done (by kernel_rfl) ?_ _
     clear hHeld
     go_wp2
     go_ret
     exact ⟨r2b (HF.out HR.out).symm,hBN⟩
   ·have HR:Hid (qAq op d a b imm=false):=yKu (hs ▸ hz)
    refine wpAnyH_take (i:=4) (v:=undef) rfl (by kernel_rfl) (by kernel_rfl) (by kernel_rfl) (fun _ _ _ h=>h) (Or.inr ⟨by rfl,rfl⟩) (by assumption) ?_
    simp only [Act.put,p1q,p2q,p3q,p4q,p5q,p6q]
    refine wpAnyH_take (i:=5) (v:=undef) rfl (by kernel_rfl) (by kernel_rfl) (by kernel_rfl) (fun _ _ _ h=>h) (Or.inr ⟨by rfl,rfl⟩) (by assumption) ?_
    simp only [Act.put,p1q,p2q,p3q,p4q,p5q,p6q]
    refine wpAnyH_take (i:=6) (v:=undef) rfl (by kernel_rfl) (by kernel_rfl) (by kernel_rfl) (fun _ _ _ h=>h) (Or.inr ⟨by rfl,rfl⟩) (by assumption) ?_
    simp only [Act.put,p1q,p2q,p3q,p4q,p5q,p6q]
    refine wpAnyH_take (i:=7) (v:=undef) rfl (by kernel_rfl) (by kernel_rfl) (by kernel_rfl) (fun _ _ _ h=>h) (Or.inr ⟨by rfl,rfl⟩) (by assumption) ?_
    simp only [Act.put,p1q,p2q,p3q,p4q,p5q,p6q]
    refine wpAnyH_take (i:=8) (v:=undef) rfl (by kernel_rfl) (by kernel_rfl) (by kernel_rfl) (fun _ _ _ h=>h) (Or.inr ⟨by rfl,rfl⟩) (by assumption) ?_
    simp only [Act.put,p1q,p2q,p3q,p4q,p5q,p6q]
    refine wpAnyH_take (i:=9) (v:=.bool true) rfl (by kernel_rfl) (by kernel_rfl) (by kernel_rfl) (fun _ _ _ h=>h) (Or.inl ⟨by rfl,fun wy hSw=>?_⟩) (by assumption) ?_
    ·obtain ⟨⟨d0,d1,d2,d3,d4⟩,e0,e1,e2,e3,e4,e5,e6⟩:=hSw
     go_simp
    simp only [Act.put,p1q,p2q,p3q,p4q,p5q,p6q]
    refine wpAnyH_take (i:=10) (v:=.bool true) rfl (by kernel_rfl) (by kernel_rfl) (by kernel_rfl) (fun _ _ _ h=>h) (Or.inl ⟨by rfl,fun wy hSw=>?_⟩) (by assumption) ?_
    ·obtain ⟨⟨d0,d1,d2,d3,d4⟩,e0,e1,e2,e3,e4,e5,e6⟩:=hSw
     go_simp
    simp only [Act.put,p1q,p2q,p3q,p4q,p5q,p6q]
    refine wpAnyH_take (i:=11) (v:=undef) rfl (by kernel_rfl) (by kernel_rfl) (by kernel_rfl) (fun _ _ _ h=>h) (Or.inr ⟨by rfl,rfl⟩) (by assumption) ?_
    simp only [Act.put,p1q,p2q,p3q,p4q,p5q,p6q]
    refine wpAnyH_take (i:=12) (v:=undef) rfl (by kernel_rfl) (by kernel_rfl) (by kernel_rfl) (fun _ _ _ h=>h) (Or.inr ⟨by rfl,rfl⟩) (by assumption) ?_
    simp only [Act.put,p1q,p2q,p3q,p4q,p5q,p6q]
    refine wpAnyH_take (i:=13) (v:=undef) rfl (by kernel_rfl) (by kernel_rfl) (by kernel_rfl) (fun _ _ _ h=>h) (Or.inr ⟨by rfl,rfl⟩) (by assumption) ?_
    simp only [Act.put,p1q,p2q,p3q,p4q,p5q,p6q]
    refine wpAnyH_take (i:=14) (v:=undef) rfl (by kernel_rfl) (by kernel_rfl) (by kernel_rfl) (fun _ _ _ h=>h) (Or.inr ⟨by rfl,rfl⟩) (by assumption) ?_
    simp only [Act.put,p1q,p2q,p3q,p4q,p5q,p6q]
    refine wpAnyH_take (i:=15) (v:=.bool true) rfl (by kernel_rfl) (by kernel_rfl) (by kernel_rfl) (fun _ _ _ h=>h) (Or.inl ⟨by rfl,fun wy hSw=>?_⟩) (by assumption) ?_
    ·obtain ⟨⟨d0,d1,d2,d3,d4⟩,e0,e1,e2,e3,e4,e5,e6⟩:=hSw
     go_simp
    simp only [Act.put,p1q,p2q,p3q,p4q,p5q,p6q]
    refine wpAnyH_done (by kernel_rfl) ?_ _
    clear hHeld
    go_wp2
    go_ret
    exact ⟨r2b (HF.out HR.out).symm,hB0.drew⟩
  ·obtain rfl:k=n:=by omega
   have HT:Hid (xs.all In.right=true):=by show _=_;rw [<- hall,<- hn,List.take_length]
   clear hall hat
   go_wp2
   go_ret
   exact ⟨r2b HT.out.symm,hbe⟩
theorem qNs {w a:World}{o:Obj}(h:Below (w.alloc o).heap.size (w.alloc o) a):w.heap.size<a.heap.size:=by
 have b:=h.size;rw [World.size_alloc] at b
 omega
theorem qGg (op d a b c:Int)(w:World)(n:Nat)(l:n=w.heap.size):Cl 127 #[.slice (some ⟨n,0,none⟩) 1 1] (w.alloc (qBr op d a b c)) fun e f=>e=.returned (.bool (qAq op d a b c))/\Bw w f:=by
 subst l;refine (qTj w.heap.size 0 1 [⟨op,d,a,b,c⟩] (w.alloc (qBr op d a b c)) (by simp) (by unfold maxLen;omega) (by simp) ?_).mono ?_
 ·intro k g
  obtain rfl:k=0:=by simp at g;exact g
  simp [At]
 ·rintro e f ⟨rfl,i⟩;exact ⟨r2b (by simp [In.right]),qAt i⟩
theorem qHb {a d:Int}{b b' c c':Bool}(g:a=d)(i:b=b')(f:c=c'):Ending.returned (.tuple #[I4 a,.bool b,.bool c])=.returned (.tuple #[I4 d,.bool b',.bool c']):=by rw [g,i,f]

theorem yBf (op d a b f:Int)(w:World):Cl 38 #[qAl op d a b f] w fun e l=>e=.returned (.tuple #[I4 (qCp op d a b f).1,.bool (qCp op d a b f).2.1,.bool (qCp op d a b f).2.2])/\Bw w l:=by
 by_cases i:qAq op d a b f=true
 ·by_cases h15:op=15
  ·subst h15;have A:=qKu i (by omega)
   have g:Hid (qCp 15 d a b f=(d+1,true,false)):=by show _=_;unfold qCp;rw [if_neg (by simp [i]),if_pos rfl]
   go_enter Tryz.func38,Tryz.ntmps38
   go_wp2_with (first
    | (go_at_call 63;refine (qEz _ d a b f _).mono ?_;rintro e y ⟨rfl,c⟩;have k:=qAt c;obtain ⟨r,u,n,o,s⟩:=qDn c;clear c)
    | (go_at_call 64;refine (qCx _ _).mono ?_;rintro e l ⟨rfl,rfl⟩))
   go_ret3
   exact ⟨qHb (by rw [g.out]) (by rw [g.out]) (by rw [g.out]),k⟩
  have D:(op==15)=false:=by simp;omega
  by_cases hj:16<=op/\op<=19
  ·have A:=qKu i (by omega)
   have z:qBw op=true:=by simp [qBw];omega
   have g:Hid (qCp op d a b f=(d+1,true,true)):=by show _=_;unfold qCp;rw [if_neg (by simp [i]),if_neg h15,if_pos hj]
   go_enter Tryz.func38,Tryz.ntmps38
   go_wp2_with (first
    | (go_at_call 63;refine (qEz _ d a b f _).mono ?_;rintro e y ⟨rfl,c⟩;have k:=qAt c;obtain ⟨r,u,n,o,s⟩:=qDn c;clear c)
    | (go_at_call 64;refine (qCx _ _).mono ?_;rintro e l ⟨rfl,rfl⟩))
   go_ret3
   exact ⟨qHb (by rw [g.out]) (by rw [g.out]) (by rw [g.out]),k⟩
  have z:qBw op=false:=by simp [qBw];omega
  by_cases h20:op=20
  ·subst h20;have A:=qKu i (by omega)
   have g:Hid (qCp 20 d a b f=(-d,true,true)):=by show _=_;unfold qCp;rw [if_neg (by simp [i]),if_neg h15,if_neg hj,if_pos rfl]
   go_enter Tryz.func38,Tryz.ntmps38
   go_wp2_with (first
    | (go_at_call 63;refine (qEz _ d a b f _).mono ?_;rintro e y ⟨rfl,c⟩;have k:=qAt c;obtain ⟨r,u,n,o,s⟩:=qDn c;clear c)
    | (go_at_call 64;refine (qCx _ _).mono ?_;rintro e l ⟨rfl,rfl⟩))
   go_ret3
   exact ⟨qHb (by rw [g.out]) (by rw [g.out]) (by rw [g.out]),k⟩
  have B:(op==20)=false:=by simp;omega
  have g:Hid (qCp op d a b f=(0,false,op != 22)):=by show _=_;unfold qCp;rw [if_neg (by simp [i]),if_neg h15,if_neg hj,if_neg h20]
  go_enter Tryz.func38,Tryz.ntmps38
  go_wp2_with (first
   | (go_at_call 63;refine (qEz _ d a b f _).mono ?_;rintro e y ⟨rfl,c⟩;have k:=qAt c;obtain ⟨r,u,n,o,s⟩:=qDn c;clear c)
   | (go_at_call 64;refine (qCx _ _).mono ?_;rintro e l ⟨rfl,rfl⟩))
  go_ret3
  exact ⟨qHb (by rw [g.out]) (by rw [g.out]) (by rw [g.out]),k⟩
 ·have i:=eq_false_of_ne_true i
  have g:Hid (qCp op d a b f=(0,false,false)):=by show _=_;unfold qCp;rw [if_pos i]
  go_enter Tryz.func38,Tryz.ntmps38
  go_wp2_with (first
   | (go_at_call 63;refine (qEz _ d a b f _).mono ?_;rintro e y ⟨rfl,c⟩;have k:=qAt c;obtain ⟨r,u,n,o,s⟩:=qDn c;clear c)
   | (go_at_call 64;refine (qCx _ _).mono ?_;rintro e l ⟨rfl,rfl⟩))
  go_ret3
  exact ⟨qHb (by rw [g.out]) (by rw [g.out]) (by rw [g.out]),k⟩

theorem yRb (op d a b f:Int)(w:World):Cl 114 #[qAl op d a b f] w fun e u=>e=.returned (.tuple #[I4 (qCp op d a b f).1,.bool (qCp op d a b f).2.1,.bool (qCp op d a b f).2.2])/\Bw w u:=by
 cases hr:qAq op d a b f
 ·have g:Hid (qCp op d a b f=(0,false,false)):=by show _=_;unfold qCp;rw [if_pos hr]
  go_enter Tryz.func114,Tryz.ntmps114
  go_wp2_with (go_at_call 127;go_must (refine (qGg op d a b f _ _ (by simp)).mono ?_);rintro e l ⟨rfl,c⟩;go_must (have i:=qAt c;obtain ⟨o,k,n,r,s⟩:=qDn c;clear c))
  go_ret3
  exact ⟨qHb (by rw [g.out]) (by rw [g.out]) (by rw [g.out]),i⟩
 by_cases h15:15<=op/\op<=20
 ·have G:=qKu hr h15
  have y:op=15∨op=16∨op=17∨op=18∨op=19∨op=20:=by omega
  clear h15
  rcases y with rfl|rfl|rfl|rfl|rfl|rfl

  ·have g:Hid (qCp 15 d a b f=(d+1,true,false)):=by show _=_;unfold qCp;rw [hr];rfl
   go_enter Tryz.func114,Tryz.ntmps114
   go_wp2_with (go_at_call 127;go_must (refine (qGg 15 d a b f _ _ (by simp)).mono ?_);rintro e l ⟨rfl,c⟩;go_must (have i:=qAt c;obtain ⟨o,k,n,r,s⟩:=qDn c;clear c))
   go_ret3
   exact ⟨qHb (by rw [g.out]) (by rw [g.out]) (by rw [g.out]),i⟩
  ·have g:Hid (qCp 16 d a b f=(d+1,true,true)):=by show _=_;unfold qCp;rw [hr];rfl
   go_enter Tryz.func114,Tryz.ntmps114
   go_wp2_with (go_at_call 127;go_must (refine (qGg 16 d a b f _ _ (by simp)).mono ?_);rintro e l ⟨rfl,c⟩;go_must (have i:=qAt c;obtain ⟨o,k,n,r,s⟩:=qDn c;clear c))
   go_ret3
   exact ⟨qHb (by rw [g.out]) (by rw [g.out]) (by rw [g.out]),i⟩
  ·have g:Hid (qCp 17 d a b f=(d+1,true,true)):=by show _=_;unfold qCp;rw [hr];rfl
   go_enter Tryz.func114,Tryz.ntmps114
   go_wp2_with (go_at_call 127;go_must (refine (qGg 17 d a b f _ _ (by simp)).mono ?_);rintro e l ⟨rfl,c⟩;go_must (have i:=qAt c;obtain ⟨o,k,n,r,s⟩:=qDn c;clear c))
   go_ret3
   exact ⟨qHb (by rw [g.out]) (by rw [g.out]) (by rw [g.out]),i⟩
  ·have g:Hid (qCp 18 d a b f=(d+1,true,true)):=by show _=_;unfold qCp;rw [hr];rfl
   go_enter Tryz.func114,Tryz.ntmps114
   go_wp2_with (go_at_call 127;go_must (refine (qGg 18 d a b f _ _ (by simp)).mono ?_);rintro e l ⟨rfl,c⟩;go_must (have i:=qAt c;obtain ⟨o,k,n,r,s⟩:=qDn c;clear c))
   go_ret3
   exact ⟨qHb (by rw [g.out]) (by rw [g.out]) (by rw [g.out]),i⟩
  ·have g:Hid (qCp 19 d a b f=(d+1,true,true)):=by show _=_;unfold qCp;rw [hr];rfl
   go_enter Tryz.func114,Tryz.ntmps114
   go_wp2_with (go_at_call 127;go_must (refine (qGg 19 d a b f _ _ (by simp)).mono ?_);rintro e l ⟨rfl,c⟩;go_must (have i:=qAt c;obtain ⟨o,k,n,r,s⟩:=qDn c;clear c))
   go_ret3
   exact ⟨qHb (by rw [g.out]) (by rw [g.out]) (by rw [g.out]),i⟩
  ·have g:Hid (qCp 20 d a b f=(-d,true,true)):=by show _=_;unfold qCp;rw [hr];rfl
   go_enter Tryz.func114,Tryz.ntmps114
   go_wp2_with (go_at_call 127;go_must (refine (qGg 20 d a b f _ _ (by simp)).mono ?_);rintro e l ⟨rfl,c⟩;go_must (have i:=qAt c;obtain ⟨o,k,n,r,s⟩:=qDn c;clear c))
   go_ret3
   exact ⟨qHb (by rw [g.out]) (by rw [g.out]) (by rw [g.out]),i⟩
 ·have g:Hid (qCp op d a b f=(0,false,op != 22)):=by
   show _=_;unfold qCp;rw [if_neg (by simp [hr]),if_neg (by omega),if_neg (by omega),if_neg (by omega)]
  have D:(op==16)=false:=by simp;omega
  have B:(op==17)=false:=by simp;omega
  have E:(op==18)=false:=by simp;omega
  have F:(op==19)=false:=by simp;omega
  have A:(op==20)=false:=by simp;omega
  have z:(op==15)=false:=by simp;omega
  clear h15;go_enter Tryz.func114,Tryz.ntmps114
  go_wp2_with (go_at_call 127;go_must (refine (qGg op d a b f _ _ (by simp)).mono ?_);rintro e l ⟨rfl,c⟩;go_must (have i:=qAt c;obtain ⟨o,k,n,r,s⟩:=qDn c;clear c))
  go_region;go_wp2
  go_ret3
  exact ⟨qHb (by rw [g.out]) (by rw [g.out]) (by rw [g.out]),i.drew⟩
theorem qRo (op:Int)(w:World):Cl 132 #[I4 op] w fun e a=>e=.returned (.agg #[.bool (qAx op).dest,.bool (qAx op).first,.bool (qAx op).source,I4 (qAx op).farL,I4 (qAx op).farM,I4 (qAx op).immL,I4 (qAx op).immM])/\Bw w a:=qTn op w
theorem qVw (op:Int):∀ w:World,(Instr.field 214 (.agg #[.bool (qAx op).dest,.bool (qAx op).first,.bool (qAx op).source,I4 (qAx op).farL,I4 (qAx op).farM,I4 (qAx op).immL,I4 (qAx op).immM]) 0).run Tryz.prog w=.ok (.bool (qAx op).dest) w:=fun _=>by kernel_rfl
theorem yIg {op:Int}(b:0<=op/\op<=22):(qAx op).dest=(decide (op<=11)||(op==13||op==14)):=by
 rcases qUb b with a|a|rfl|rfl|rfl|rfl|a|rfl|rfl|rfl
 ·rw [qWs a];simp;omega
 ·rw [qWo a];simp;omega
 ·rfl
 ·rfl
 ·rfl
 ·rfl
 ·rw [qWw a];simp;omega
 ·rfl
 ·rfl
 ·rfl
theorem yFa (op d a b f:Int)(w:World):Cl 108 #[qAl op d a b f] w fun e F=>e=.returned (.tuple #[I4 (qDa op d a b f).1,.bool (qDa op d a b f).2])/\Bw w F:=by
 cases hr:qAq op d a b f
 ·have k:Hid (qDa op d a b f=(0,false)):=by show _=_;unfold qDa;rw [if_pos hr]
  go_enter Tryz.func108,Tryz.ntmps108
  go_wp2_with (go_at_call 127;go_must (refine (qGg op d a b f _ _ (by simp)).mono ?_);rintro e B ⟨rfl,c⟩;have l:=qAt c;clear c)
  go_ret2;exact ⟨qOe (by rw [k.out]) (by rw [k.out]),l⟩
 ·have D:=qDm hr;have i:=yIg D
  cases hd:(qAx op).dest
  ·have k:Hid (qDa op d a b f=(0,op==21)):=by
    show _=_;unfold qDa;rw [hd] at i;simp at i;rw [if_neg (by simp [hr]),if_neg (by omega)]
   clear i;have o:=qVw op;rw [hd] at o;go_enter Tryz.func108,Tryz.ntmps108
   go_wp2_with (first
    | (go_at_call 127;go_must (refine (qGg op d a b f _ _ (by simp)).mono ?_);rintro e B ⟨rfl,c⟩;go_must (have l:=qAt c;obtain ⟨y,A,s,u,z⟩:=qDn c;have r:=qNs c;clear c))
    | (go_at_call 132;go_must (refine (qRo op _).mono ?_);rintro e E ⟨rfl,g⟩;go_must (have n:=l.trans (g.mono l.size);rw [<- g.cell (by exact r)] at y A s u z;clear g)))
   go_region;go_wp2;go_ret2;exact ⟨qOe (by rw [k.out]) (by rw [k.out]),n.drew⟩
  ·have k:Hid (qDa op d a b f=(d,true)):=by
    show _=_;unfold qDa;rw [hd] at i;simp at i;rw [if_neg (by simp [hr]),if_pos (by omega)]
   clear i;have o:=qVw op;rw [hd] at o;go_enter Tryz.func108,Tryz.ntmps108
   go_wp2_with (first
    | (go_at_call 127;go_must (refine (qGg op d a b f _ _ (by simp)).mono ?_);rintro e B ⟨rfl,c⟩;go_must (have l:=qAt c;obtain ⟨y,A,s,u,z⟩:=qDn c;have r:=qNs c;clear c))
    | (go_at_call 132;go_must (refine (qRo op _).mono ?_);rintro e E ⟨rfl,g⟩;go_must (have n:=l.trans (g.mono l.size);rw [<- g.cell (by exact r)] at y A s u z;clear g)))
   go_ret2;exact ⟨qOe (by rw [k.out]) (by rw [k.out]),n⟩
end Go.Proofs.YtmdhljoicnommaaGreat
