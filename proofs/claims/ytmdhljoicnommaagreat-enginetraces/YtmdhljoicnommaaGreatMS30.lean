/-
  F7LFind
  F7LCheck
  F7LRest
-/
import Derived.Test.YtmdhljoicnommaaGreatMS25
import Derived.Lib.MinMax
namespace Go.Proofs.YtmdhljoicnommaaGreat
set_option maxHeartbeats 12800000
open Go.RowKit
set_option linter.unusedVariables false
set_option maxRecDepth 20000
def optI:Option Int->Value
 | some t=>.tuple #[.int .i64 t,.bool true]
 | none=>.tuple #[.int .i64 0,.bool false]
theorem any_step {ls:List Lp}{f:Lp->Bool}{j:Nat}(h:j<ls.length):(ls.take (j+1)).any f=((ls.take j).any f||f (ls.getD j Lp.nil)):=by
 rw [List.take_succ_eq_append_getElem h,List.any_append]
 simp [List.getD,h]
theorem drop_at {ls:List Lp}{n:Nat}(h:n<ls.length):ls.drop n=ls.getD n Lp.nil :: ls.drop (n+1):=by
 rw [List.drop_eq_getElem_cons h];simp [List.getD,h]
theorem take_at' {ls:List Lp}{n:Nat}(h:n<ls.length):ls.take (n+1)=ls.take n++[ls.getD n Lp.nil]:=by
 rw [List.take_succ_eq_append_getElem h];simp [List.getD,h]
theorem crossing_some (b off cap:Nat)(ls:List Lp)(w:World)(hn:ls.length<=64)(hc:ls.length<=cap)(hm:cap<=9223372036854775807)(M:b<w.heap.size)(B:∀ k,k<ls.length->AtL w b (off+k*3) (ls.getD k Lp.nil)) :
  Cl 104 #[.slice (some ⟨b,off,none⟩) ls.length cap] w fun e g=>e=.returned (optI (crossF [] ls))/\Bw w g:=by
 have G:Hid (∀ k,k<ls.length->AtL w b (off+k*3) (ls.getD k Lp.nil)):=B;clear B;obtain ⟨R,F⟩:∃ R,Hid (R=crossF [] ls):=⟨_,rfl⟩;rw [<- F.out];go_enter Tryz.func104,Tryz.ntmps104;go_wp2
 go_loopw [10] (fun i wr=>∃ n:Nat,n<=ls.length/\i=I4 n/\Hid (R=crossF (ls.take n) (ls.drop n))/\Bw w wr) (fun i _=>ls.length-(intOf i).toNat)
 case atStart=>exact ⟨0,by omega,rfl,F,Below.refl _ _⟩
 case round =>
  rename World=>w0
  obtain ⟨n,a1,rfl,N,d⟩:=hrel;have hsz:=d.size
  by_cases hlt:n<ls.length
  ·obtain ⟨⟨A,c,lb⟩,E⟩:∃ l,Hid (ls.getD n Lp.nil=l):=⟨_,rfl⟩;have a:=(G.out n hlt).below d M;rw [E.out] at a;obtain ⟨s,z,u⟩:=a;simp only at s z u
   have a2:b<w0.heap.size:=by omega
   have hcut:∀ g:World,(Instr.slice 143 (.slice (some ⟨b,off,none⟩) ls.length cap) none (some (I4 n)) none).run Tryz.prog g=.ok (.slice (some ⟨b,off,none⟩) n cap) g:=fun g=>by rw [run_uptoL _ _ _ _ (by omega) g,cutL_zero]
   have L:Hid (R=if (ls.take n).any (fun e=>entersB e c A) then some c else crossF (ls.take (n+1)) (ls.drop (n+1))):=by
    show _=_
    rw [N.out,drop_at hlt,crossF,E.out,take_at' hlt,E.out]
   go_wp2
   go_loopw [19] (fun i wr=>∃ j:Nat,j<=n/\i=I4 j/\Hid ((ls.take j).any (fun e=>entersB e c A)=false)/\Bw w wr/\w0.heap.size<wr.heap.size/\(wr.cell? ⟨w0.heap.size,0,none⟩=some (I4 A)/\wr.cell? ⟨w0.heap.size,1,none⟩=some (I4 c)/\wr.cell? ⟨w0.heap.size,2,none⟩=some (I4 lb))) (fun i _=>n-(intOf i).toNat)
   case atStart=>exact ⟨0,by omega,rfl,rfl,d.alloc (by omega) _,by simp,by go_cell,by go_cell,by go_cell⟩
   case round =>
    clear s z u;obtain ⟨j,hj,rfl,P,f,O,s,z,u⟩:=hrel;have I:=f.size
    have V:b<wr.heap.size:=by omega
    by_cases hjn:j<n
    ·obtain ⟨⟨eh,Z,U⟩,Q⟩:∃ l,Hid (ls.getD j Lp.nil=l):=⟨_,rfl⟩;have a:=(G.out j (by omega)).below f M;rw [Q.out] at a;obtain ⟨d0,S,T⟩:=a;simp only at d0 S T;obtain ⟨r,K⟩:∃ r,Hid (r=entersB ⟨eh,Z,U⟩ c A):=⟨_,rfl⟩
     have J:Hid ((ls.take (j+1)).any (fun e=>entersB e c A)=r):=by
      show _=_
      rw [any_step (by omega),P.out,Q.out,K.out,Bool.false_or]
     go_wp2_with (go_at_call 128;go_must (refine (enters_as K _).mono ?_);rintro e w1 ⟨rfl,o⟩;go_must (have y:=qAl o;have a0:=box_size o;obtain ⟨g0,X,Y⟩:=cells_next ⟨s,z,u⟩ y O;replace y:=f.trans (y.mono I);clear o s z u d0 S T))
     ·have D:Hid (R=some c):=by
       show _=_
       rw [L.out,if_pos];rw [<- List.take_append_drop (j+1) (ls.take n),List.any_append,List.take_take,Nat.min_eq_left (by omega),J.out]
       simp_all
      go_ret2;exact ⟨by rw [D.out];rfl,y⟩
     ·go_roundw
      case rel=>exact ⟨j+1,by omega,by go_num,by show _=_;rw [J.out];simp_all,y,by omega,g0,X,Y⟩
      case measure=>simp [intOf];omega
    ·obtain rfl:j=n:=by omega
     go_wp2
     go_roundw
     case rel=>exact ⟨j+1,by omega,by go_num,by show _=_;rw [L.out,if_neg (by rw [P.out];simp)],f⟩
     case measure=>simp [intOf];omega
  ·obtain rfl:n=ls.length:=by omega
   have D:Hid (R=none):=by show _=_;rw [N.out,List.drop_length];rfl
   go_wp2;go_ret2;exact ⟨by rw [D.out];rfl,d⟩
theorem crossing_none (a:Option Addr)(cap:Nat)(w:World):Cl 104 #[.slice a 0 cap] w fun e b=>e=.returned (optI none)/\w=b:=by
 go_enter Tryz.func104,Tryz.ntmps104;go_wp2
 go_loopw [10] (fun i wr=>i=I4 0/\w=wr) (fun i _=>0)
 case atStart=>exact ⟨rfl,rfl⟩
 case round =>
  obtain ⟨rfl,rfl⟩:=hrel;go_wp2;go_ret2;exact ⟨rfl,rfl⟩
theorem crossing_any (v:Value)(ls:List Lp)(w:World)(i:ls.length<=64)(h:SeesL w v ls){R:Option Int}(n:Hid (R=crossF [] ls)):Cl 104 #[v] w fun e d=>e=.returned (optI R)/\Bw w d:=by
 rw [n.out];obtain ⟨a,cap,rfl,f,hm,o,k⟩:=h
 cases ls with
 | nil=>exact (crossing_none a cap w).mono fun e d ⟨he,l⟩=>⟨he,l ▸ Below.refl _ _⟩
 | cons x ls =>
  obtain ⟨b,off,rfl,g,c⟩:=k (by simp);exact crossing_some b off cap (x :: ls) w i f (by unfold maxLen at hm;omega) g c
def optN:Option Nat->Option Int
 | some k=>some (k:Int)
 | none=>none
theorem intruder_any (v u:Value)(xs:List In)(ls:List Lp)(w:World)(hs:SeesI w v xs)(hl:SeesL w u ls)(hx:xs.length<=64)(aa:ls.length<=64){R:Option Int}(hR:Hid (R=optN (first (intrB xs ls) xs.length))) :
  Cl 105 #[v,u] w fun e w'=>e=.returned (optI R)/\Bw w w':=by
 obtain ⟨a,cap,rfl,hc,hm,a1,c⟩:=hs;have HC:Hid (xs≠[]->∃ b off,a=some ⟨b,off,none⟩/\b<w.heap.size/\∀ k,k<xs.length->At w b (off+k*5) (xs.getD k In.nil)):=c;obtain ⟨a2,a6,rfl,a9,a8,a0,g⟩:=hl;have Q:Hid (ls≠[]->∃ b off,a2=some ⟨b,off,none⟩/\b<w.heap.size/\∀ k,k<ls.length->AtL w b (off+k*3) (ls.getD k Lp.nil)):=g;clear c g a1 a0;go_enter Tryz.func105,Tryz.ntmps105;go_wp2
 go_loopw [15] (fun i wr=>∃ k:Nat,k<=xs.length/\i=I4 k/\Hid (∀ j,j<k->intrB xs ls j=false)/\Bw w wr) (fun i _=>xs.length-(intOf i).toNat)
 case atStart=>exact ⟨0,by omega,rfl,fun j hj=>by omega,Below.refl _ _⟩
 case round =>
  rename World=>w0
  obtain ⟨k,hk,rfl,I,s⟩:=hrel;have hsz:=s.size
  by_cases hlt:k<xs.length
  ·obtain ⟨b,off,rfl,hb,D⟩:=HC.out (fun h=>by rw [h] at hlt;simp at hlt);obtain ⟨L,O,M,J,c4⟩:=(D k hlt).below s hb
   have ab:b<w0.heap.size:=by omega
   clear D;obtain ⟨⟨op,d,a,bb,T⟩,HI⟩:∃ i,Hid (nth xs k=i):=⟨_,rfl⟩;have F:xs.getD k In.nil=⟨op,d,a,bb,T⟩:=HI.out;rw [F] at L O M J c4;clear F;simp only at L O M J c4;obtain ⟨f,z⟩:∃ f,Hid (f=(nth xs k).far):=⟨_,rfl⟩;obtain ⟨l,HL⟩:∃ l,Hid (l=(nth xs k).leads):=⟨_,rfl⟩;obtain ⟨o,HO⟩:∃ o,Hid (o=(nth xs k).on):=⟨_,rfl⟩;have S:=far_bd (nth xs k);rw [<- z.out] at S
   have X:Hid (intrB xs ls k=(l&&ls.any (fun e=>entersB e k (k+f)))):=by show _=_;rw [z.out,HL.out];rfl
   go_wp2_with (go_at_call 114;go_must (refine (goes_one HI z HL HO _).mono ?_);rintro e w1 ⟨rfl,B⟩;go_must (have A:Bw w w1:=s.trans ((qAl B).mono hsz);have a7:=A.size;clear B))
   go_loopw [28] (fun i wr=>∃ j:Nat,j<=ls.length/\i=I4 j/\Hid ((l&&(ls.take j).any (fun e=>entersB e k (k+f)))=false)/\Bw w wr) (fun i _=>ls.length-(intOf i).toNat)
   case atStart=>exact ⟨0,by omega,rfl,by show _=_;simp,A⟩
   case round =>
    obtain ⟨j,hj,rfl,Z,n⟩:=hrel;have K:=n.size
    by_cases hjn:j<ls.length
    ·obtain ⟨b2,a4,rfl,P,y⟩:=Q.out (fun h=>by rw [h] at hjn;simp at hjn);obtain ⟨⟨eh,et,eb⟩,Y⟩:∃ l,Hid (ls.getD j Lp.nil=l):=⟨_,rfl⟩;have c:=(y j hjn).below n P;rw [Y.out] at c;obtain ⟨d0,d1,d2⟩:=c;simp only at d0 d1 d2
     have a5:b2<wr.heap.size:=by omega
     clear y;obtain ⟨r,V⟩:∃ r,Hid (r=entersB ⟨eh,et,eb⟩ k (k+f)):=⟨_,rfl⟩
     have U:Hid ((l&&(ls.take (j+1)).any (fun e=>entersB e k (k+f)))=(l&&r)):=by
      show _=_
      have E:=Z.out;rw [any_step hjn,Y.out,<- V.out]
      cases l
      ·rfl
      ·rw [Bool.true_and] at E;rw [E,Bool.false_or]
     cases l
     ·go_wp2
      go_roundw
      case rel=>exact ⟨j+1,by omega,by go_num,by show _=_;rfl,n.alloc (by omega) _⟩
      case measure=>simp [intOf];omega
     ·go_wp2_with (go_at_call 128;go_must (refine (enters_as V _).mono ?_);rintro e w2 ⟨rfl,G⟩;go_must (have N:=n.trans ((qAl G).mono K);clear G))
      ·have a3:Hid (R=some (k:Int)):=by
        show _=_
        rw [hR.out,qDb I.out hlt,optN];rw [X.out,<- List.take_append_drop (j+1) ls,List.any_append,Bool.true_and];have:=U.out
        simp_all
       go_ret2;exact ⟨by rw [a3.out];rfl,N⟩
      ·go_roundw
       case rel=>exact ⟨j+1,by omega,by go_num,by show _=_;rw [U.out];simp_all,N⟩
       case measure=>simp [intOf];omega
    ·obtain rfl:j=ls.length:=by omega
     go_wp2
     go_roundw
     case rel=>exact ⟨k+1,by omega,by go_num,fun i hi=>by
      by_cases e:i=k
      ·rw [e,X.out];have:=Z.out;rwa [List.take_length] at this
      ·exact I.out i (by omega),n⟩
     case measure=>simp [intOf];omega
  ·obtain rfl:k=xs.length:=by omega
   have z:Hid (R=none):=by show _=_;rw [hR.out,qCi I.out];rfl
   go_wp2;go_ret2;exact ⟨by rw [z.out];rfl,s⟩
theorem timesC_step {p:Int}:∀ (ls:List Lp) (j:Nat) (t:Int),j<ls.length->timesC p (ls.take (j+1)) t=if inLpB (ls.getD j Lp.nil) p then min (timesC p (ls.take j) t*((ls.getD j Lp.nil).b+1)) 257 else timesC p (ls.take j) t
 | [],j,t,h=>by simp at h
 | l :: r,0,t,h=>by simp [timesC]
 | l :: r,j+1,t,h=>by
  have:=timesC_step (p:=p) r j (if inLpB l p then min (t*(l.b+1)) 257 else t) (by simpa using h);simp only [List.take_succ_cons,timesC,List.getD_cons_succ];exact this
theorem timesC_bd {p:Int}{ls:List Lp}(h:Bnd ls):1<=timesC p ls 1/\timesC p ls 1<=257:=by
 have b:=timesC_eq (p:=p) h;have a:=timesT_ge (p:=p) h (show (1:Int)<=1 by omega)
 omega
theorem Bnd.take {ls:List Lp}(h:Bnd ls)(j:Nat):Bnd (ls.take j):=fun l a=>h l (List.mem_of_mem_take a)
theorem Bnd.get {ls:List Lp}(h:Bnd ls){j:Nat}(a:j<ls.length):1<=(ls.getD j Lp.nil).b/\(ls.getD j Lp.nil).b<=255:=by
 have e:ls.getD j Lp.nil=ls[j]:=by simp [a]
 rw [e];exact h _ (List.getElem_mem a)
theorem cost_any (v u:Value)(xs:List In)(ls:List Lp)(w:World)(hs:SeesI w v xs)(hl:SeesL w u ls)(hx:xs.length<=64)(a7:ls.length<=64)(o:Bnd ls){R:Int}(hR:Hid (R=costC ls xs.length)) :
  Cl 106 #[v,u] w fun e w'=>e=.returned (I4 R)/\Bw w w':=by
 obtain ⟨a,cap,rfl,hc,hm,Y,c⟩:=hs;obtain ⟨a2,a3,rfl,a6,a4,X,d⟩:=hl;have L:Hid (ls≠[]->∃ b off,a2=some ⟨b,off,none⟩/\b<w.heap.size/\∀ k,k<ls.length->AtL w b (off+k*3) (ls.getD k Lp.nil)):=d;have I:Hid (Bnd ls):=o;clear c d Y X o;go_enter Tryz.func106,Tryz.ntmps106;go_wp2
 go_loopw [12,5] (fun i s wr=>∃ (k:Nat) (S:Int),k<=xs.length/\i=I4 k/\s=I4 S/\Hid (S=costC ls k)/\0<=S/\S<=257*k/\Bw w wr) (fun i _ _=>xs.length-(intOf i).toNat)
 case atStart=>exact ⟨0,0,by omega,rfl,rfl,rfl,by omega,by omega,Below.refl _ _⟩
 case round =>
  rename World=>w0
  obtain ⟨k,S,hk,rfl,rfl,O,a5,a8,y⟩:=hrel;have hsz:=y.size
  by_cases hlt:k<xs.length
  ·go_wp2
   go_loopw [17,7] (fun i s wr=>∃ (j:Nat) (t:Int),j<=ls.length/\i=I4 j/\s=I4 t/\Hid (t=timesC k (ls.take j) 1)/\1<=t/\t<=257/\Bw w wr) (fun i _ _=>ls.length-(intOf i).toNat)
   case atStart=>exact ⟨0,1,by omega,rfl,rfl,rfl,by omega,by omega,y⟩
   case round =>
    obtain ⟨j,t,hj,rfl,rfl,J,N,G,f⟩:=hrel;have F:=f.size
    by_cases hjn:j<ls.length
    ·obtain ⟨b2,a0,rfl,K,n⟩:=L.out (fun h=>by rw [h] at hjn;simp at hjn);obtain ⟨⟨Q,M,g⟩,E⟩:∃ l,Hid (ls.getD j Lp.nil=l):=⟨_,rfl⟩;have c:=(n j hjn).below f K;rw [E.out] at c;obtain ⟨d0,T,U⟩:=c;simp only at d0 T U
     have a1:b2<wr.heap.size:=by omega
     clear n;have B:=I.out.get hjn;rw [E.out] at B;simp only at B;have Z:0<=t*(g+1)/\t*(g+1)<=257*256:=⟨Int.mul_nonneg (by omega) (by omega),Int.mul_le_mul (by omega) (by omega) (by omega) (by omega)⟩;obtain ⟨r,P⟩:∃ r,Hid (r=inLpB ⟨Q,M,g⟩ k):=⟨_,rfl⟩
     have A:Hid (timesC k (ls.take (j+1)) 1=if r then min (t*(g+1)) 257 else t):=by
      show _=_
      rw [timesC_step ls j 1 hjn,E.out,<- J.out,<- P.out]
     have D:Hid (1<=timesC k (ls.take (j+1)) 1/\timesC k (ls.take (j+1)) 1<=257):=timesC_bd (I.out.take _)
     go_wp2_with (go_at_call 129;go_must (refine (within_as P _).mono ?_);rintro e w2 ⟨rfl,z⟩;go_must (have o:=f.trans ((qAl z).mono F);have V:=boxL_cell (l:=⟨Q,M,g⟩) z;obtain ⟨g0,g1,g2⟩:=V;clear z d0 T U))
     ·go_roundw
      case rel=>exact ⟨j+1,min (t*(g+1)) 257,by omega,by go_num,rfl,by show _=_;rw [A.out];simp_all,by have:=D.out;rw [A.out] at this;simp_all,by have:=D.out;rw [A.out] at this;simp_all,o⟩
      case measure=>simp [intOf];omega
     ·go_roundw
      case rel=>exact ⟨j+1,t,by omega,by go_num,rfl,by show _=_;rw [A.out];simp_all,N,G,o⟩
      case measure=>simp [intOf];omega
    ·obtain rfl:j=ls.length:=by omega
     go_wp2
     go_roundw
     case rel=>exact ⟨k+1,S+t,by omega,by go_num,by go_num,by show _=_;rw [costC,O.out,J.out,List.take_length],by omega,by omega,f⟩
     case measure=>simp [intOf];omega
  ·obtain rfl:k=xs.length:=by omega
   go_wp2;go_ret;exact ⟨ri (by rw [hR.out,O.out]),y⟩
theorem keepH {p:Prop}(h:p):Hid p:=h
theorem r2i {a c b b':Int}(f:a=c)(d:b=b'):Ending.returned (.tuple #[I4 a,I4 b])=.returned (.tuple #[I4 c,I4 b']):=by rw [f,d]
theorem SeesI.shape {w:World}{v:Value}{xs:List In}(h:SeesI w v xs):∃ a cap,v=.slice a xs.length cap:=by
 obtain ⟨a,cap,rfl,_⟩:=h;exact ⟨a,cap,rfl⟩
theorem check_any (v:Value)(xs:List In)(w:World)(hs:SeesI w v xs){P E:Int}(hP:Hid (checkL xs=(P,E))) :
  Cl 72 #[v] w fun e w'=>e=.returned (.tuple #[I4 P,I4 E])/\Bw w w':=by
 have Q:=keepH hs;obtain ⟨a,cap,rfl,hc,hm,a3,N⟩:=hs;have HC:Hid (xs≠[]->∃ b off,a=some ⟨b,off,none⟩/\b<w.heap.size/\∀ k,k<xs.length->At w b (off+k*5) (xs.getD k In.nil)):=N;clear N a3
 by_cases h0:xs.length=0
 ·have X:Hid (P=0/\E=10):=by have:=hP.out;unfold checkL at this;rw [if_pos h0] at this;injection this with a b;exact ⟨a.symm,b.symm⟩
  rw [h0];go_enter Tryz.func72,Tryz.ntmps72;go_wp2;go_ret2;exact ⟨r2i X.out.1.symm X.out.2.symm,Below.refl _ _⟩
 have a4:((xs.length:Int)==0)=false:=by simp;exact fun h=>h0 (by rw [h];rfl)
 by_cases h64:64<xs.length
 ·have X:Hid (P=0/\E=11):=by have:=hP.out;unfold checkL at this;rw [if_neg h0,if_pos h64] at this;injection this with a b;exact ⟨a.symm,b.symm⟩
  go_enter Tryz.func72,Tryz.ntmps72;go_wp2;go_ret2;exact ⟨r2i X.out.1.symm X.out.2.symm,Below.refl _ _⟩
 have HP:Hid ((P,E)=match first (placeB xs) xs.length with
   | some k=>((k:Int),placeE xs k)
   | none=>match crossF [] (loopsL xs) with
    | some t=>(t,31)
    | none=>match first (intrB xs (loopsL xs)) xs.length with
     | some p=>((p:Int),31)
     | none=>if 256<costC (loopsL xs) xs.length then (0,32) else (0,0)):=by
  have h:=hP.out;unfold checkL at h;rw [if_neg h0,if_neg h64] at h;exact h.symm
 clear hP;obtain ⟨b,off,rfl,hb,a0⟩:=HC.out (fun h=>by rw [h] at h0;simp at h0)
 have HA:Hid (∀ B,Bw w B->∀ k,k<xs.length->At B b (off+k*5) (xs.getD k In.nil)):=fun B G k hk=>(a0 k hk).below G hb
 clear a0 HC;go_enter Tryz.func72,Tryz.ntmps72;go_wp2
 go_loopw [21] (fun i wr=>∃ k:Nat,k<=xs.length/\i=I4 k/\Hid (∀ j,j<k->placeB xs j=false)/\Bw w wr) (fun i _=>xs.length-(intOf i).toNat)
 case atStart=>exact ⟨0,by omega,rfl,fun j hj=>by omega,Below.refl _ _⟩
 case round =>
  obtain ⟨k,hk,rfl,Z,s⟩:=hrel;have hsz:=s.size
  by_cases hlt:k<xs.length
  ·obtain ⟨q,V⟩:∃ q,Hid (q=placeE xs k):=⟨_,rfl⟩
   by_cases hq:q=0
   ·subst hq
    have r:Hid (placeB xs k=false):=by show _=_;unfold placeB;rw [<- V.out];rfl
    go_wp2_with (go_at_call 102;go_must (refine (place_any b off cap xs k _ hlt (by omega) (by omega) (HA.out _ s)).mono ?_);rintro e B ⟨he,f⟩;go_must (rw [<- V.out] at he;subst he;have c:=s.trans (f.mono hsz);clear f))
    go_roundw
    case rel=>exact ⟨k+1,by omega,by go_num,fun j hj=>by
     by_cases e:j=k
     ·rw [e];exact r.out
     ·exact Z.out j (by omega),c⟩
    case measure=>simp [intOf];omega
   ·have a5:(q != 0)=true:=by simpa using hq
    have r:Hid (P=(k:Int)/\E=q):=by
     have h:=HP.out;rw [qDb Z.out hlt (by unfold placeB;rw [<- V.out];simpa using hq)] at h
     dsimp only at h
     injection h with G K;exact ⟨G,by rw [K,V.out]⟩
    go_wp2_with (go_at_call 102;go_must (refine (place_any b off cap xs k _ hlt (by omega) (by omega) (HA.out _ s)).mono ?_);rintro e B ⟨he,f⟩;go_must (rw [<- V.out] at he;subst he;have c:=s.trans (f.mono hsz);clear f))
    go_ret2;exact ⟨r2i r.out.1.symm r.out.2.symm,c⟩
  ·obtain rfl:k=xs.length:=by omega
   have a2:Hid (Placed xs):=Z.out
   have z:Hid ((loopsL xs).length<=64):=by have:=loopsU_len xs xs.length;show _<=_;unfold loopsL;omega
   have a1:Hid (Bnd (loopsL xs)):=bnd_ok a2.out
   have F:Hid ((P,E)=match crossF [] (loopsL xs) with
    | some t=>(t,31)
    | none=>match first (intrB xs (loopsL xs)) xs.length with
     | some p=>((p:Int),31)
     | none=>if 256<costC (loopsL xs) xs.length then (0,32) else (0,0)):=by
    have h:=HP.out;rw [qCi Z.out] at h;exact h
   clear HP;have J:=Q.out.below s;obtain ⟨R,S⟩:∃ R,Hid (R=crossF [] (loopsL xs)):=⟨_,rfl⟩;rw [<- S.out] at F;obtain ⟨I,HI⟩:∃ I,Hid (I=first (intrB xs (loopsL xs)) xs.length):=⟨_,rfl⟩;rw [<- HI.out] at F
   have U:Hid (optN I=optN (first (intrB xs (loopsL xs)) xs.length)):=by show _=_;rw [HI.out]
   obtain ⟨C,T⟩:∃ C,Hid (C=costC (loopsL xs) xs.length):=⟨_,rfl⟩;rw [<- T.out] at F;have J:Hid (SeesI wr (.slice (some ⟨b,off,none⟩) xs.length cap) xs):=J
   have o:xs.length<=64:=by omega
   cases R with
   | some t =>
    have r:Hid (P=t/\E=31):=by have h:=F.out;dsimp only at h;injection h with G K;exact ⟨G,K⟩
    go_wp2_with (first
     | (go_at_call 103;go_must (refine (loops_any _ xs _ J.out o).mono ?_);rintro e B ⟨D,rfl,g,f⟩;go_must (have A:Hid (SeesL B D (loopsL xs)):=own_seesL g;have c:=s.trans (f.mono hsz);clear f g))
     | (go_at_call 104;go_must (refine (crossing_any _ (loopsL xs) _ z.out A.out S).mono ?_);rintro e O ⟨he,l⟩;go_must (simp only [optI] at he;subst he;have d:=c.trans (l.mono c.size);clear l)))
    go_ret2;exact ⟨r2i r.out.1.symm r.out.2.symm,d⟩
   | none =>
    cases I with
    | some p =>
     have r:Hid (P=(p:Int)/\E=31):=by have h:=F.out;dsimp only at h;injection h with G K;exact ⟨G,K⟩
     go_wp2_with (first
      | (go_at_call 103;go_must (refine (loops_any _ xs _ J.out o).mono ?_);rintro e B ⟨D,rfl,g,f⟩;go_must (have A:Hid (SeesL B D (loopsL xs)):=own_seesL g;have c:=s.trans (f.mono hsz);clear f g))
      | (go_at_call 104;go_must (refine (crossing_any _ (loopsL xs) _ z.out A.out S).mono ?_);rintro e O ⟨he,l⟩;go_must (simp only [optI] at he;subst he;have d:=c.trans (l.mono c.size);have y:Hid (SeesL O D (loopsL xs)):=SeesL.below A.out l;clear l A))
      | (go_at_call 105;go_must (refine (intruder_any _ _ xs (loopsL xs) _ (Q.out.below d) y.out o z.out U).mono ?_);rintro e w3 ⟨he,u⟩;go_must (simp only [optI,optN] at he;subst he;have n:=d.trans (u.mono d.size);clear u)))
     go_ret2;exact ⟨r2i r.out.1.symm r.out.2.symm,n⟩
    | none =>
     by_cases hC:256<C
     ·have r:Hid (P=0/\E=32):=by have h:=F.out;dsimp only at h;rw [if_pos hC] at h;injection h with G K;exact ⟨G,K⟩
      go_wp2_with (first
       | (go_at_call 103;go_must (refine (loops_any _ xs _ J.out o).mono ?_);rintro e B ⟨D,rfl,g,f⟩;go_must (have A:Hid (SeesL B D (loopsL xs)):=own_seesL g;have c:=s.trans (f.mono hsz);clear f g))
       | (go_at_call 104;go_must (refine (crossing_any _ (loopsL xs) _ z.out A.out S).mono ?_);rintro e O ⟨he,l⟩;go_must (simp only [optI] at he;subst he;have d:=c.trans (l.mono c.size);have y:Hid (SeesL O D (loopsL xs)):=SeesL.below A.out l;clear l A))
       | (go_at_call 105;go_must (refine (intruder_any _ _ xs (loopsL xs) _ (Q.out.below d) y.out o z.out U).mono ?_);rintro e w3 ⟨he,u⟩;go_must (simp only [optI,optN] at he;subst he;have n:=d.trans (u.mono d.size);have Y:Hid (SeesL w3 D (loopsL xs)):=SeesL.below y.out u;clear u y))
       | (go_at_call 106;go_must (refine (cost_any _ _ xs (loopsL xs) _ (Q.out.below n) Y.out o z.out a1.out T).mono ?_);rintro e w4 ⟨he,L⟩;go_must (subst he;have M:=n.trans (L.mono n.size);clear L)))
      go_ret2;exact ⟨r2i r.out.1.symm r.out.2.symm,M⟩
     ·have r:Hid (P=0/\E=0):=by have h:=F.out;dsimp only at h;rw [if_neg hC] at h;injection h with G K;exact ⟨G,K⟩
      go_wp2_with (first
       | (go_at_call 103;go_must (refine (loops_any _ xs _ J.out o).mono ?_);rintro e B ⟨D,rfl,g,f⟩;go_must (have A:Hid (SeesL B D (loopsL xs)):=own_seesL g;have c:=s.trans (f.mono hsz);clear f g))
       | (go_at_call 104;go_must (refine (crossing_any _ (loopsL xs) _ z.out A.out S).mono ?_);rintro e O ⟨he,l⟩;go_must (simp only [optI] at he;subst he;have d:=c.trans (l.mono c.size);have y:Hid (SeesL O D (loopsL xs)):=SeesL.below A.out l;clear l A))
       | (go_at_call 105;go_must (refine (intruder_any _ _ xs (loopsL xs) _ (Q.out.below d) y.out o z.out U).mono ?_);rintro e w3 ⟨he,u⟩;go_must (simp only [optI,optN] at he;subst he;have n:=d.trans (u.mono d.size);have Y:Hid (SeesL w3 D (loopsL xs)):=SeesL.below y.out u;clear u y))
       | (go_at_call 106;go_must (refine (cost_any _ _ xs (loopsL xs) _ (Q.out.below n) Y.out o z.out a1.out T).mono ?_);rintro e w4 ⟨he,L⟩;go_must (subst he;have M:=n.trans (L.mono n.size);clear L)))
      go_ret2;exact ⟨r2i r.out.1.symm r.out.2.symm,M⟩
theorem own_base {w:World}{base a:Nat}{e:TypeId}{size:Nat}{v:Value}{n:Nat}{xs:List Value}(h:w.ownsRow a e size v n xs)(k:base<=a):w.ownsRow base e size v n xs:=by
 rcases h with ⟨c,f|⟨g,cap,b,d,i,r⟩⟩
 ·exact ⟨c,.inl f⟩
 ·exact ⟨c,.inr ⟨g,cap,b,d,by omega,r⟩⟩
def errL (xs:List In):Int:=(checkL xs).2
def loopsA (xs:List In):List Lp:=if errL xs=0 then loopsL xs else []
theorem check_as {v:Value}{xs:List In}{w:World}(d:SeesI w v xs){P E:Int}(c:Hid (P=(checkL xs).1))(b:Hid (E=errL xs)):Cl 72 #[v] w fun e a=>e=.returned (.tuple #[I4 P,I4 E])/\Bw w a :=
 check_any v xs w d (show checkL xs=(P,E) by rw [c.out,b.out];rfl)
theorem lloops_any (v:Value)(xs:List In)(w:World)(k:SeesI w v xs){E:Int}(d:Hid (E=errL xs)):Cl 73 #[v] w fun e o=>∃ u,e=.returned (.tuple #[u,I4 E])/\o.ownsRow w.heap.size 186 3 u (loopsA xs).length (flatL (loopsA xs))/\Bw w o:=by
 have i:Hid (SeesI w v xs):=k;obtain ⟨a,cap,rfl⟩:=k.shape;clear k;obtain ⟨P,n⟩:∃ P,Hid (P=(checkL xs).1):=⟨_,rfl⟩
 by_cases hE0:E=0
 ·subst hE0;have s:Hid (Taken xs):=check_ok.1 (show errL xs=0 from d.out.symm)
  have l:Hid (loopsA xs=loopsL xs):=by show _=_;unfold loopsA;rw [if_pos d.out.symm]
  rw [l.out];go_enter Tryz.func73,Tryz.ntmps73
  go_wp2_with (first
   | (go_at_call 72;go_must (refine (check_as i.out n d).mono ?_);rintro e y ⟨rfl,b⟩)
   | (go_at_call 103;go_must (refine (loops_any _ xs _ (i.out.below b) s.out.top).mono ?_);rintro e B ⟨D,rfl,c,f⟩;go_must (have g:=b.trans (f.mono b.size);have r:Hid _:=c;have z:=b.size;clear f c)))
  go_ret2;refine ⟨_,rfl,?_,g⟩;exact own_base r.out z
 ·have A:(E != 0)=true:=by simpa using hE0
  have l:Hid (loopsA xs=[]):=by show _=_;unfold loopsA;rw [if_neg (by rw [<- d.out];exact hE0)]
  rw [l.out];go_enter Tryz.func73,Tryz.ntmps73
  go_wp2_with (go_at_call 72;go_must (refine (check_as i.out n d).mono ?_);rintro e y ⟨rfl,b⟩)
  go_ret2;exact ⟨_,rfl,World.ownsRow_nil _ _ _ _,b⟩
theorem Tryz.infoInt7:(Tryz.prog.info? 3).map (fun i=>(i.zero,i.size,i.bytes))=some (some (I4 0),1,8):=by kernel_rfl
end Go.Proofs.YtmdhljoicnommaaGreat
