/-
  F7LFind
  F7LCheck
  F7LRest
-/
import Derived.Test.YtmdhljoicnommaaGreatME25
import Derived.Lib.MinMax
namespace Go.Proofs.YtmdhljoicnommaaGreat
set_option maxHeartbeats 12800000
open Go.RowKit
set_option linter.unusedVariables false
set_option maxRecDepth 20000
def qIi:Option Int->Value
 | some t=>.tuple #[.int .i64 t,.bool true]
 | none=>.tuple #[.int .i64 0,.bool false]
theorem yCw {ls:List Lp}{f:Lp->Bool}{j:Nat}(h:j<ls.length):(ls.take (j+1)).any f=((ls.take j).any f||f (ls.getD j Lp.nil)):=by
 rw [List.take_succ_eq_append_getElem h,List.any_append]
 simp [List.getD,h]
theorem yZs {ls:List Lp}{n:Nat}(h:n<ls.length):ls.drop n=ls.getD n Lp.nil :: ls.drop (n+1):=by
 rw [List.drop_eq_getElem_cons h];simp [List.getD,h]
theorem take_at' {ls:List Lp}{n:Nat}(h:n<ls.length):ls.take (n+1)=ls.take n++[ls.getD n Lp.nil]:=by
 rw [List.take_succ_eq_append_getElem h];simp [List.getD,h]
theorem qZs (b off cap:Nat)(ls:List Lp)(w:World)(hn:ls.length<=64)(hc:ls.length<=cap)(hm:cap<=9223372036854775807)(G:b<w.heap.size)(B:∀ k,k<ls.length->AtL w b (off+k*3) (ls.getD k Lp.nil)) :
  Cl 104 #[.slice (some ⟨b,off,none⟩) ls.length cap] w fun e g=>e=.returned (qIi (qEd [] ls))/\Bw w g:=by
 have N:Hid (∀ k,k<ls.length->AtL w b (off+k*3) (ls.getD k Lp.nil)):=B;clear B;obtain ⟨R,K⟩:∃ R,Hid (R=qEd [] ls):=⟨_,rfl⟩;rw [<- K.out];go_enter Tryz.func104,Tryz.ntmps104;go_wp2
 go_loopw [10] (fun i wr=>∃ n:Nat,n<=ls.length/\i=I4 n/\Hid (R=qEd (ls.take n) (ls.drop n))/\Bw w wr) (fun i _=>ls.length-(intOf i).toNat)
 case atStart=>exact ⟨0,by omega,rfl,K,Below.refl _ _⟩
 case round =>
  rename World=>w0
  obtain ⟨n,a2,rfl,M,d⟩:=hrel;have hsz:=d.size
  by_cases hlt:n<ls.length
  ·obtain ⟨⟨o,c,lb⟩,D⟩:∃ l,Hid (ls.getD n Lp.nil=l):=⟨_,rfl⟩;have a:=(N.out n hlt).below d G;rw [D.out] at a;obtain ⟨z,s,y⟩:=a;simp only at z s y
   have a1:b<w0.heap.size:=by omega
   have hcut:∀ g:World,(Instr.slice 143 (.slice (some ⟨b,off,none⟩) ls.length cap) none (some (I4 n)) none).run Tryz.prog g=.ok (.slice (some ⟨b,off,none⟩) n cap) g:=fun g=>by rw [yMv _ _ _ _ (by omega) g,yQj]
   have L:Hid (R=if (ls.take n).any (fun e=>qEy e c o) then some c else qEd (ls.take (n+1)) (ls.drop (n+1))):=by
    show _=_
    rw [M.out,yZs hlt,qEd,D.out,take_at' hlt,D.out]
   go_wp2
   go_loopw [19] (fun i wr=>∃ j:Nat,j<=n/\i=I4 j/\Hid ((ls.take j).any (fun e=>qEy e c o)=false)/\Bw w wr/\w0.heap.size<wr.heap.size/\(wr.cell? ⟨w0.heap.size,0,none⟩=some (I4 o)/\wr.cell? ⟨w0.heap.size,1,none⟩=some (I4 c)/\wr.cell? ⟨w0.heap.size,2,none⟩=some (I4 lb))) (fun i _=>n-(intOf i).toNat)
   case atStart=>exact ⟨0,by omega,rfl,rfl,d.alloc (by omega) _,by simp,by go_cell,by go_cell,by go_cell⟩
   case round =>
    clear z s y;obtain ⟨j,hj,rfl,T,f,Q,z,s,y⟩:=hrel;have F:=f.size
    have Z:b<wr.heap.size:=by omega
    by_cases hjn:j<n
    ·obtain ⟨⟨U,Y,X⟩,J⟩:∃ l,Hid (ls.getD j Lp.nil=l):=⟨_,rfl⟩;have a:=(N.out j (by omega)).below f G;rw [J.out] at a;obtain ⟨d0,O,P⟩:=a;simp only at d0 O P;obtain ⟨r,S⟩:∃ r,Hid (r=qEy ⟨U,Y,X⟩ c o):=⟨_,rfl⟩
     have I:Hid ((ls.take (j+1)).any (fun e=>qEy e c o)=r):=by
      show _=_
      rw [yCw (by omega),T.out,J.out,S.out,Bool.false_or]
     go_wp2_with (go_at_call 128;go_must (refine (qYl S _).mono ?_);rintro e w1 ⟨rfl,u⟩;go_must (have A:=qAt u;have a0:=qNs u;obtain ⟨g0,g1,V⟩:=qVi ⟨z,s,y⟩ A Q;replace A:=f.trans (A.mono F);clear u z s y d0 O P))
     ·have E:Hid (R=some c):=by
       show _=_
       rw [L.out,if_pos];rw [<- List.take_append_drop (j+1) (ls.take n),List.any_append,List.take_take,Nat.min_eq_left (by omega),I.out]
       simp_all
      go_ret2;exact ⟨by rw [E.out];rfl,A⟩
     ·go_roundw
      case rel=>exact ⟨j+1,by omega,by go_num,by show _=_;rw [I.out];simp_all,A,by omega,g0,g1,V⟩
      case measure=>simp [intOf];omega
    ·obtain rfl:j=n:=by omega
     go_wp2
     go_roundw
     case rel=>exact ⟨j+1,by omega,by go_num,by show _=_;rw [L.out,if_neg (by rw [T.out];simp)],f⟩
     case measure=>simp [intOf];omega
  ·obtain rfl:n=ls.length:=by omega
   have E:Hid (R=none):=by show _=_;rw [M.out,List.drop_length];rfl
   go_wp2;go_ret2;exact ⟨by rw [E.out];rfl,d⟩
theorem qZw (a:Option Addr)(cap:Nat)(w:World):Cl 104 #[.slice a 0 cap] w fun e b=>e=.returned (qIi none)/\w=b:=by
 go_enter Tryz.func104,Tryz.ntmps104;go_wp2
 go_loopw [10] (fun i wr=>i=I4 0/\w=wr) (fun i _=>0)
 case atStart=>exact ⟨rfl,rfl⟩
 case round =>
  obtain ⟨rfl,rfl⟩:=hrel;go_wp2;go_ret2;exact ⟨rfl,rfl⟩
theorem qLg (v:Value)(ls:List Lp)(w:World)(l:ls.length<=64)(h:SeesL w v ls){R:Option Int}(k:Hid (R=qEd [] ls)):Cl 104 #[v] w fun e d=>e=.returned (qIi R)/\Bw w d:=by
 rw [k.out];obtain ⟨a,cap,rfl,n,hm,o,f⟩:=h
 cases ls with
 | nil=>exact (qZw a cap w).mono fun e d ⟨he,i⟩=>⟨he,i ▸ Below.refl _ _⟩
 | cons x ls =>
  obtain ⟨b,off,rfl,g,c⟩:=f (by simp);exact qZs b off cap (x :: ls) w l n (by unfold maxLen at hm;omega) g c
def qHj:Option Nat->Option Int
 | some k=>some (k:Int)
 | none=>none
theorem qOa (v u:Value)(xs:List In)(ls:List Lp)(w:World)(hs:SeesI w v xs)(hl:SeesL w u ls)(hx:xs.length<=64)(aa:ls.length<=64){R:Option Int}(V:Hid (R=qHj (first (qIa xs ls) xs.length))) :
  Cl 105 #[v,u] w fun e w'=>e=.returned (qIi R)/\Bw w w':=by
 obtain ⟨a,cap,rfl,hc,hm,K,c⟩:=hs;have HC:Hid (xs≠[]->∃ b off,a=some ⟨b,off,none⟩/\b<w.heap.size/\∀ k,k<xs.length->At w b (off+k*5) (xs.getD k In.nil)):=c;obtain ⟨a2,a5,rfl,a9,ab,a3,g⟩:=hl;have a1:Hid (ls≠[]->∃ b off,a2=some ⟨b,off,none⟩/\b<w.heap.size/\∀ k,k<ls.length->AtL w b (off+k*3) (ls.getD k Lp.nil)):=g;clear c g K a3;go_enter Tryz.func105,Tryz.ntmps105;go_wp2
 go_loopw [15] (fun i wr=>∃ k:Nat,k<=xs.length/\i=I4 k/\Hid (∀ j,j<k->qIa xs ls j=false)/\Bw w wr) (fun i _=>xs.length-(intOf i).toNat)
 case atStart=>exact ⟨0,by omega,rfl,fun j hj=>by omega,Below.refl _ _⟩
 case round =>
  rename World=>w0
  obtain ⟨k,hk,rfl,I,s⟩:=hrel;have hsz:=s.size
  by_cases hlt:k<xs.length
  ·obtain ⟨b,off,rfl,hb,G⟩:=HC.out (fun h=>by rw [h] at hlt;simp at hlt);obtain ⟨T,N,S,c3,c4⟩:=(G k hlt).below s hb
   have a8:b<w0.heap.size:=by omega
   clear G;obtain ⟨⟨op,d,a,bb,Z⟩,P⟩:∃ i,Hid (nth xs k=i):=⟨_,rfl⟩;have E:xs.getD k In.nil=⟨op,d,a,bb,Z⟩:=P.out;rw [E] at T N S c3 c4;clear E;simp only at T N S c3 c4;obtain ⟨f,A⟩:∃ f,Hid (f=(nth xs k).far):=⟨_,rfl⟩;obtain ⟨l,U⟩:∃ l,Hid (l=(nth xs k).leads):=⟨_,rfl⟩;obtain ⟨o,HO⟩:∃ o,Hid (o=(nth xs k).on):=⟨_,rfl⟩;have Y:=qRe (nth xs k);rw [<- A.out] at Y
   have O:Hid (qIa xs ls k=(l&&ls.any (fun e=>qEy e k (k+f)))):=by show _=_;rw [A.out,U.out];rfl
   go_wp2_with (go_at_call 114;go_must (refine (qKl P A U HO _).mono ?_);rintro e w1 ⟨rfl,B⟩;go_must (have z:Bw w w1:=s.trans ((qAt B).mono hsz);have a7:=z.size;clear B))
   go_loopw [28] (fun i wr=>∃ j:Nat,j<=ls.length/\i=I4 j/\Hid ((l&&(ls.take j).any (fun e=>qEy e k (k+f)))=false)/\Bw w wr) (fun i _=>ls.length-(intOf i).toNat)
   case atStart=>exact ⟨0,by omega,rfl,by show _=_;simp,z⟩
   case round =>
    obtain ⟨j,hj,rfl,HJ,n⟩:=hrel;have J:=n.size
    by_cases hjn:j<ls.length
    ·obtain ⟨b2,a4,rfl,a0,y⟩:=a1.out (fun h=>by rw [h] at hjn;simp at hjn);obtain ⟨⟨eh,et,eb⟩,M⟩:∃ l,Hid (ls.getD j Lp.nil=l):=⟨_,rfl⟩;have c:=(y j hjn).below n a0;rw [M.out] at c;obtain ⟨d0,d1,d2⟩:=c;simp only at d0 d1 d2
     have a6:b2<wr.heap.size:=by omega
     clear y;obtain ⟨r,Hr⟩:∃ r,Hid (r=qEy ⟨eh,et,eb⟩ k (k+f)):=⟨_,rfl⟩
     have L:Hid ((l&&(ls.take (j+1)).any (fun e=>qEy e k (k+f)))=(l&&r)):=by
      show _=_
      have D:=HJ.out;rw [yCw hjn,M.out,<- Hr.out]
      cases l
      ·rfl
      ·rw [Bool.true_and] at D;rw [D,Bool.false_or]
     cases l
     ·go_wp2
      go_roundw
      case rel=>exact ⟨j+1,by omega,by go_num,by show _=_;rfl,n.alloc (by omega) _⟩
      case measure=>simp [intOf];omega
     ·go_wp2_with (go_at_call 128;go_must (refine (qYl Hr _).mono ?_);rintro e w2 ⟨rfl,F⟩;go_must (have X:=n.trans ((qAt F).mono J);clear F))
      ·have Q:Hid (R=some (k:Int)):=by
        show _=_
        rw [V.out,qHn I.out hlt,qHj];rw [O.out,<- List.take_append_drop (j+1) ls,List.any_append,Bool.true_and];have:=L.out
        simp_all
       go_ret2;exact ⟨by rw [Q.out];rfl,X⟩
      ·go_roundw
       case rel=>exact ⟨j+1,by omega,by go_num,by show _=_;rw [L.out];simp_all,X⟩
       case measure=>simp [intOf];omega
    ·obtain rfl:j=ls.length:=by omega
     go_wp2
     go_roundw
     case rel=>exact ⟨k+1,by omega,by go_num,fun i hi=>by
      by_cases e:i=k
      ·rw [e,O.out];have:=HJ.out;rwa [List.take_length] at this
      ·exact I.out i (by omega),n⟩
     case measure=>simp [intOf];omega
  ·obtain rfl:k=xs.length:=by omega
   have A:Hid (R=none):=by show _=_;rw [V.out,qEw I.out];rfl
   go_wp2;go_ret2;exact ⟨by rw [A.out];rfl,s⟩
theorem qTi {p:Int}:∀ (ls:List Lp) (j:Nat) (t:Int),j<ls.length->qGf p (ls.take (j+1)) t=if qBk (ls.getD j Lp.nil) p then min (qGf p (ls.take j) t*((ls.getD j Lp.nil).b+1)) 257 else qGf p (ls.take j) t
 | [],j,t,h=>by simp at h
 | l :: r,0,t,h=>by simp [qGf]
 | l :: r,j+1,t,h=>by
  have:=qTi (p:=p) r j (if qBk l p then min (t*(l.b+1)) 257 else t) (by simpa using h);simp only [List.take_succ_cons,qGf,List.getD_cons_succ];exact this
theorem yMc {p:Int}{ls:List Lp}(h:Bnd ls):1<=qGf p ls 1/\qGf p ls 1<=257:=by
 have b:=qRj (p:=p) h;have a:=qMi (p:=p) h (show (1:Int)<=1 by omega)
 omega
theorem Bnd.take {ls:List Lp}(h:Bnd ls)(j:Nat):Bnd (ls.take j):=fun l a=>h l (List.mem_of_mem_take a)
theorem Bnd.get {ls:List Lp}(h:Bnd ls){j:Nat}(a:j<ls.length):1<=(ls.getD j Lp.nil).b/\(ls.getD j Lp.nil).b<=255:=by
 have e:ls.getD j Lp.nil=ls[j]:=by simp [a]
 rw [e];exact h _ (List.getElem_mem a)
theorem yDa (v u:Value)(xs:List In)(ls:List Lp)(w:World)(Z:SeesI w v xs)(hl:SeesL w u ls)(hx:xs.length<=64)(a7:ls.length<=64)(o:Bnd ls){R:Int}(hR:Hid (R=qFy ls xs.length)) :
  Cl 106 #[v,u] w fun e w'=>e=.returned (I4 R)/\Bw w w':=by
 obtain ⟨a,cap,rfl,hc,hm,J,c⟩:=Z;obtain ⟨a2,a3,rfl,a6,a8,Y,d⟩:=hl;have X:Hid (ls≠[]->∃ b off,a2=some ⟨b,off,none⟩/\b<w.heap.size/\∀ k,k<ls.length->AtL w b (off+k*3) (ls.getD k Lp.nil)):=d;have G:Hid (Bnd ls):=o;clear c d J Y o;go_enter Tryz.func106,Tryz.ntmps106;go_wp2
 go_loopw [12,5] (fun i s wr=>∃ (k:Nat) (S:Int),k<=xs.length/\i=I4 k/\s=I4 S/\Hid (S=qFy ls k)/\0<=S/\S<=257*k/\Bw w wr) (fun i _ _=>xs.length-(intOf i).toNat)
 case atStart=>exact ⟨0,0,by omega,rfl,rfl,rfl,by omega,by omega,Below.refl _ _⟩
 case round =>
  rename World=>w0
  obtain ⟨k,S,hk,rfl,rfl,K,a5,a9,z⟩:=hrel;have hsz:=z.size
  by_cases hlt:k<xs.length
  ·go_wp2
   go_loopw [17,7] (fun i s wr=>∃ (j:Nat) (t:Int),j<=ls.length/\i=I4 j/\s=I4 t/\Hid (t=qGf k (ls.take j) 1)/\1<=t/\t<=257/\Bw w wr) (fun i _ _=>ls.length-(intOf i).toNat)
   case atStart=>exact ⟨0,1,by omega,rfl,rfl,rfl,by omega,by omega,z⟩
   case round =>
    obtain ⟨j,t,hj,rfl,rfl,V,M,O,f⟩:=hrel;have F:=f.size
    by_cases hjn:j<ls.length
    ·obtain ⟨b2,a1,rfl,U,n⟩:=X.out (fun h=>by rw [h] at hjn;simp at hjn);obtain ⟨⟨I,N,g⟩,E⟩:∃ l,Hid (ls.getD j Lp.nil=l):=⟨_,rfl⟩;have c:=(n j hjn).below f U;rw [E.out] at c;obtain ⟨d0,P,Q⟩:=c;simp only at d0 P Q
     have a4:b2<wr.heap.size:=by omega
     clear n;have D:=G.out.get hjn;rw [E.out] at D;simp only at D;have a0:0<=t*(g+1)/\t*(g+1)<=257*256:=⟨Int.mul_nonneg (by omega) (by omega),Int.mul_le_mul (by omega) (by omega) (by omega) (by omega)⟩;obtain ⟨r,T⟩:∃ r,Hid (r=qBk ⟨I,N,g⟩ k):=⟨_,rfl⟩
     have A:Hid (qGf k (ls.take (j+1)) 1=if r then min (t*(g+1)) 257 else t):=by
      show _=_
      rw [qTi ls j 1 hjn,E.out,<- V.out,<- T.out]
     have B:Hid (1<=qGf k (ls.take (j+1)) 1/\qGf k (ls.take (j+1)) 1<=257):=yMc (G.out.take _)
     go_wp2_with (go_at_call 129;go_must (refine (qSh T _).mono ?_);rintro e w2 ⟨rfl,y⟩;go_must (have o:=f.trans ((qAt y).mono F);have L:=qXo (l:=⟨I,N,g⟩) y;obtain ⟨g0,g1,g2⟩:=L;clear y d0 P Q))
     ·go_roundw
      case rel=>exact ⟨j+1,min (t*(g+1)) 257,by omega,by go_num,rfl,by show _=_;rw [A.out];simp_all,by have:=B.out;rw [A.out] at this;simp_all,by have:=B.out;rw [A.out] at this;simp_all,o⟩
      case measure=>simp [intOf];omega
     ·go_roundw
      case rel=>exact ⟨j+1,t,by omega,by go_num,rfl,by show _=_;rw [A.out];simp_all,M,O,o⟩
      case measure=>simp [intOf];omega
    ·obtain rfl:j=ls.length:=by omega
     go_wp2
     go_roundw
     case rel=>exact ⟨k+1,S+t,by omega,by go_num,by go_num,by show _=_;rw [qFy,K.out,V.out,List.take_length],by omega,by omega,f⟩
     case measure=>simp [intOf];omega
  ·obtain rfl:k=xs.length:=by omega
   go_wp2;go_ret;exact ⟨ri (by rw [hR.out,K.out]),z⟩
theorem qVv {p:Prop}(h:p):Hid p:=h
theorem r2i {a c b b':Int}(f:a=c)(d:b=b'):Ending.returned (.tuple #[I4 a,I4 b])=.returned (.tuple #[I4 c,I4 b']):=by rw [f,d]
theorem SeesI.shape {w:World}{v:Value}{xs:List In}(h:SeesI w v xs):∃ a cap,v=.slice a xs.length cap:=by
 obtain ⟨a,cap,rfl,_⟩:=h;exact ⟨a,cap,rfl⟩
theorem yOw (v:Value)(xs:List In)(w:World)(hs:SeesI w v xs){P E:Int}(hP:Hid (qCh xs=(P,E))) :
  Cl 72 #[v] w fun e w'=>e=.returned (.tuple #[I4 P,I4 E])/\Bw w w':=by
 have O:=qVv hs;obtain ⟨a,cap,rfl,hc,hm,a2,N⟩:=hs;have HC:Hid (xs≠[]->∃ b off,a=some ⟨b,off,none⟩/\b<w.heap.size/\∀ k,k<xs.length->At w b (off+k*5) (xs.getD k In.nil)):=N;clear N a2
 by_cases h0:xs.length=0
 ·have T:Hid (P=0/\E=10):=by have:=hP.out;unfold qCh at this;rw [if_pos h0] at this;injection this with a b;exact ⟨a.symm,b.symm⟩
  rw [h0];go_enter Tryz.func72,Tryz.ntmps72;go_wp2;go_ret2;exact ⟨r2i T.out.1.symm T.out.2.symm,Below.refl _ _⟩
 have a5:((xs.length:Int)==0)=false:=by simp;exact fun h=>h0 (by rw [h];rfl)
 by_cases h64:64<xs.length
 ·have T:Hid (P=0/\E=11):=by have:=hP.out;unfold qCh at this;rw [if_neg h0,if_pos h64] at this;injection this with a b;exact ⟨a.symm,b.symm⟩
  go_enter Tryz.func72,Tryz.ntmps72;go_wp2;go_ret2;exact ⟨r2i T.out.1.symm T.out.2.symm,Below.refl _ _⟩
 have HP:Hid ((P,E)=match first (qEb xs) xs.length with
   | some k=>((k:Int),qIs xs k)
   | none=>match qEd [] (qAk xs) with
    | some t=>(t,31)
    | none=>match first (qIa xs (qAk xs)) xs.length with
     | some p=>((p:Int),31)
     | none=>if 256<qFy (qAk xs) xs.length then (0,32) else (0,0)):=by
  have h:=hP.out;unfold qCh at h;rw [if_neg h0,if_neg h64] at h;exact h.symm
 clear hP;obtain ⟨b,off,rfl,hb,a1⟩:=HC.out (fun h=>by rw [h] at h0;simp at h0)
 have HA:Hid (∀ A,Bw w A->∀ k,k<xs.length->At A b (off+k*5) (xs.getD k In.nil)):=fun A F k hk=>(a1 k hk).below F hb
 clear a1 HC;go_enter Tryz.func72,Tryz.ntmps72;go_wp2
 go_loopw [21] (fun i wr=>∃ k:Nat,k<=xs.length/\i=I4 k/\Hid (∀ j,j<k->qEb xs j=false)/\Bw w wr) (fun i _=>xs.length-(intOf i).toNat)
 case atStart=>exact ⟨0,by omega,rfl,fun j hj=>by omega,Below.refl _ _⟩
 case round =>
  obtain ⟨k,hk,rfl,HK,u⟩:=hrel;have hsz:=u.size
  by_cases hlt:k<xs.length
  ·obtain ⟨q,Y⟩:∃ q,Hid (q=qIs xs k):=⟨_,rfl⟩
   by_cases hq:q=0
   ·subst hq
    have r:Hid (qEb xs k=false):=by show _=_;unfold qEb;rw [<- Y.out];rfl
    go_wp2_with (go_at_call 102;go_must (refine (qXa b off cap xs k _ hlt (by omega) (by omega) (HA.out _ u)).mono ?_);rintro e A ⟨he,f⟩;go_must (rw [<- Y.out] at he;subst he;have c:=u.trans (f.mono hsz);clear f))
    go_roundw
    case rel=>exact ⟨k+1,by omega,by go_num,fun j hj=>by
     by_cases e:j=k
     ·rw [e];exact r.out
     ·exact HK.out j (by omega),c⟩
    case measure=>simp [intOf];omega
   ·have a4:(q != 0)=true:=by simpa using hq
    have r:Hid (P=(k:Int)/\E=q):=by
     have h:=HP.out;rw [qHn HK.out hlt (by unfold qEb;rw [<- Y.out];simpa using hq)] at h
     dsimp only at h
     injection h with F K;exact ⟨F,by rw [K,Y.out]⟩
    go_wp2_with (go_at_call 102;go_must (refine (qXa b off cap xs k _ hlt (by omega) (by omega) (HA.out _ u)).mono ?_);rintro e A ⟨he,f⟩;go_must (rw [<- Y.out] at he;subst he;have c:=u.trans (f.mono hsz);clear f))
    go_ret2;exact ⟨r2i r.out.1.symm r.out.2.symm,c⟩
  ·obtain rfl:k=xs.length:=by omega
   have a3:Hid (qFr xs):=HK.out
   have y:Hid ((qAk xs).length<=64):=by have:=qQt xs xs.length;show _<=_;unfold qAk;omega
   have a0:Hid (Bnd (qAk xs)):=qJl a3.out
   have G:Hid ((P,E)=match qEd [] (qAk xs) with
    | some t=>(t,31)
    | none=>match first (qIa xs (qAk xs)) xs.length with
     | some p=>((p:Int),31)
     | none=>if 256<qFy (qAk xs) xs.length then (0,32) else (0,0)):=by
    have h:=HP.out;rw [qEw HK.out] at h;exact h
   clear HP;have J:=O.out.below u;obtain ⟨R,U⟩:∃ R,Hid (R=qEd [] (qAk xs)):=⟨_,rfl⟩;rw [<- U.out] at G;obtain ⟨I,HI⟩:∃ I,Hid (I=first (qIa xs (qAk xs)) xs.length):=⟨_,rfl⟩;rw [<- HI.out] at G
   have X:Hid (qHj I=qHj (first (qIa xs (qAk xs)) xs.length)):=by show _=_;rw [HI.out]
   obtain ⟨C,V⟩:∃ C,Hid (C=qFy (qAk xs) xs.length):=⟨_,rfl⟩;rw [<- V.out] at G;have J:Hid (SeesI wr (.slice (some ⟨b,off,none⟩) xs.length cap) xs):=J
   have n:xs.length<=64:=by omega
   cases R with
   | some t =>
    have r:Hid (P=t/\E=31):=by have h:=G.out;dsimp only at h;injection h with F K;exact ⟨F,K⟩
    go_wp2_with (first
     | (go_at_call 103;go_must (refine (qMp _ xs _ J.out n).mono ?_);rintro e A ⟨D,rfl,g,f⟩;go_must (have B:Hid (SeesL A D (qAk xs)):=qMg g;have c:=u.trans (f.mono hsz);clear f g))
     | (go_at_call 104;go_must (refine (qLg _ (qAk xs) _ y.out B.out U).mono ?_);rintro e Q ⟨he,l⟩;go_must (simp only [qIi] at he;subst he;have d:=c.trans (l.mono c.size);clear l)))
    go_ret2;exact ⟨r2i r.out.1.symm r.out.2.symm,d⟩
   | none =>
    cases I with
    | some p =>
     have r:Hid (P=(p:Int)/\E=31):=by have h:=G.out;dsimp only at h;injection h with F K;exact ⟨F,K⟩
     go_wp2_with (first
      | (go_at_call 103;go_must (refine (qMp _ xs _ J.out n).mono ?_);rintro e A ⟨D,rfl,g,f⟩;go_must (have B:Hid (SeesL A D (qAk xs)):=qMg g;have c:=u.trans (f.mono hsz);clear f g))
      | (go_at_call 104;go_must (refine (qLg _ (qAk xs) _ y.out B.out U).mono ?_);rintro e Q ⟨he,l⟩;go_must (simp only [qIi] at he;subst he;have d:=c.trans (l.mono c.size);have z:Hid (SeesL Q D (qAk xs)):=SeesL.below B.out l;clear l B))
      | (go_at_call 105;go_must (refine (qOa _ _ xs (qAk xs) _ (O.out.below d) z.out n y.out X).mono ?_);rintro e Z ⟨he,s⟩;go_must (simp only [qIi,qHj] at he;subst he;have o:=d.trans (s.mono d.size);clear s)))
     go_ret2;exact ⟨r2i r.out.1.symm r.out.2.symm,o⟩
    | none =>
     by_cases hC:256<C
     ·have r:Hid (P=0/\E=32):=by have h:=G.out;dsimp only at h;rw [if_pos hC] at h;injection h with F K;exact ⟨F,K⟩
      go_wp2_with (first
       | (go_at_call 103;go_must (refine (qMp _ xs _ J.out n).mono ?_);rintro e A ⟨D,rfl,g,f⟩;go_must (have B:Hid (SeesL A D (qAk xs)):=qMg g;have c:=u.trans (f.mono hsz);clear f g))
       | (go_at_call 104;go_must (refine (qLg _ (qAk xs) _ y.out B.out U).mono ?_);rintro e Q ⟨he,l⟩;go_must (simp only [qIi] at he;subst he;have d:=c.trans (l.mono c.size);have z:Hid (SeesL Q D (qAk xs)):=SeesL.below B.out l;clear l B))
       | (go_at_call 105;go_must (refine (qOa _ _ xs (qAk xs) _ (O.out.below d) z.out n y.out X).mono ?_);rintro e Z ⟨he,s⟩;go_must (simp only [qIi,qHj] at he;subst he;have o:=d.trans (s.mono d.size);have S:Hid (SeesL Z D (qAk xs)):=SeesL.below z.out s;clear s z))
       | (go_at_call 106;go_must (refine (yDa _ _ xs (qAk xs) _ (O.out.below o) S.out n y.out a0.out V).mono ?_);rintro e w4 ⟨he,L⟩;go_must (subst he;have M:=o.trans (L.mono o.size);clear L)))
      go_ret2;exact ⟨r2i r.out.1.symm r.out.2.symm,M⟩
     ·have r:Hid (P=0/\E=0):=by have h:=G.out;dsimp only at h;rw [if_neg hC] at h;injection h with F K;exact ⟨F,K⟩
      go_wp2_with (first
       | (go_at_call 103;go_must (refine (qMp _ xs _ J.out n).mono ?_);rintro e A ⟨D,rfl,g,f⟩;go_must (have B:Hid (SeesL A D (qAk xs)):=qMg g;have c:=u.trans (f.mono hsz);clear f g))
       | (go_at_call 104;go_must (refine (qLg _ (qAk xs) _ y.out B.out U).mono ?_);rintro e Q ⟨he,l⟩;go_must (simp only [qIi] at he;subst he;have d:=c.trans (l.mono c.size);have z:Hid (SeesL Q D (qAk xs)):=SeesL.below B.out l;clear l B))
       | (go_at_call 105;go_must (refine (qOa _ _ xs (qAk xs) _ (O.out.below d) z.out n y.out X).mono ?_);rintro e Z ⟨he,s⟩;go_must (simp only [qIi,qHj] at he;subst he;have o:=d.trans (s.mono d.size);have S:Hid (SeesL Z D (qAk xs)):=SeesL.below z.out s;clear s z))
       | (go_at_call 106;go_must (refine (yDa _ _ xs (qAk xs) _ (O.out.below o) S.out n y.out a0.out V).mono ?_);rintro e w4 ⟨he,L⟩;go_must (subst he;have M:=o.trans (L.mono o.size);clear L)))
      go_ret2;exact ⟨r2i r.out.1.symm r.out.2.symm,M⟩
theorem yWd {w:World}{base a:Nat}{e:TypeId}{size:Nat}{v:Value}{n:Nat}{xs:List Value}(h:w.ownsRow a e size v n xs)(i:base<=a):w.ownsRow base e size v n xs:=by
 rcases h with ⟨c,f|⟨g,cap,b,d,k,r⟩⟩
 ·exact ⟨c,.inl f⟩
 ·exact ⟨c,.inr ⟨g,cap,b,d,by omega,r⟩⟩
def qLu (xs:List In):Int:=(qCh xs).2
def qMs (xs:List In):List Lp:=if qLu xs=0 then qAk xs else []
theorem qQo {v:Value}{xs:List In}{w:World}(d:SeesI w v xs){P E:Int}(b:Hid (P=(qCh xs).1))(c:Hid (E=qLu xs)):Cl 72 #[v] w fun e a=>e=.returned (.tuple #[I4 P,I4 E])/\Bw w a :=
 yOw v xs w d (show qCh xs=(P,E) by rw [b.out,c.out];rfl)
theorem yHq (v:Value)(xs:List In)(w:World)(g:SeesI w v xs){E:Int}(d:Hid (E=qLu xs)):Cl 73 #[v] w fun e o=>∃ u,e=.returned (.tuple #[u,I4 E])/\o.ownsRow w.heap.size 186 3 u (qMs xs).length (qHl (qMs xs))/\Bw w o:=by
 have i:Hid (SeesI w v xs):=g;obtain ⟨a,cap,rfl⟩:=g.shape;clear g;obtain ⟨P,n⟩:∃ P,Hid (P=(qCh xs).1):=⟨_,rfl⟩
 by_cases hE0:E=0
 ·subst hE0;have r:Hid (Taken xs):=check_ok.1 (show qLu xs=0 from d.out.symm)
  have l:Hid (qMs xs=qAk xs):=by show _=_;unfold qMs;rw [if_pos d.out.symm]
  rw [l.out];go_enter Tryz.func73,Tryz.ntmps73
  go_wp2_with (first
   | (go_at_call 72;go_must (refine (qQo i.out n d).mono ?_);rintro e z ⟨rfl,b⟩)
   | (go_at_call 103;go_must (refine (qMp _ xs _ (i.out.below b) r.out.top).mono ?_);rintro e B ⟨D,rfl,c,f⟩;go_must (have k:=b.trans (f.mono b.size);have s:Hid _:=c;have y:=b.size;clear f c)))
  go_ret2;refine ⟨_,rfl,?_,k⟩;exact yWd s.out y
 ·have A:(E != 0)=true:=by simpa using hE0
  have l:Hid (qMs xs=[]):=by show _=_;unfold qMs;rw [if_neg (by rw [<- d.out];exact hE0)]
  rw [l.out];go_enter Tryz.func73,Tryz.ntmps73
  go_wp2_with (go_at_call 72;go_must (refine (qQo i.out n d).mono ?_);rintro e z ⟨rfl,b⟩)
  go_ret2;exact ⟨_,rfl,World.ownsRow_nil _ _ _ _,b⟩
theorem Tryz.infoInt7:(Tryz.prog.info? 3).map (fun i=>(i.zero,i.size,i.bytes))=some (some (I4 0),1,8):=by kernel_rfl
end Go.Proofs.YtmdhljoicnommaaGreat
