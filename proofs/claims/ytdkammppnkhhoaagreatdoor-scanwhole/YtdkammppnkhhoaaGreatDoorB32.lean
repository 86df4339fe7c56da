import Derived.Test.YtdkammppnkhhoaaGreatDoorB30
set_option maxRecDepth 100000
set_option maxHeartbeats 1000000
namespace Go.Proofs.YtdkammppnkhhoaaGreatDoor
variable{c:Nat}{w:World}{l xs:L8}{v:Value}{p:OA}
open Go.RowKit
attribute [local go_sem] bf bh
theorem uQ{b:Nat}{T:TypeId}(h:w.1[b]?=some (.cells #[v] T))(u:Value):(w.setCell ⟨b,0,none⟩ u).1[b]?=some (.cells #[u] T):=by
 simp[World.setCell,Array.getElem?_modify,h]
theorem qV{B:Nat}(ah:Has w B v xs)(c:UInt8)(Y:xs.length+1<=140737488355328)(J:B<=w.1.size){z:Int}{ops:Array Oper}{rest:List Oper}{y:Oper}{a:Act}{Q:Exit->Act->World->Prop}{E x:Operand}{ad:Nat}(a1:z=(c.toNat:Int))(ak:y.type=22)(U:y.guard=none)(Z:y.op=Op.call { callee:=Callee.builtin Builtin.append,args:=#[E,x],argTypes:=#[22,22] })(aj:a.eval E=v)(a0:a.eval x=.slice (some ⟨ad,0,none⟩) 1 1)(O:ad=w.1.size)(L:∀o q cap W,Hid (o=xs++[c])->Has W B (.slice q o.length cap) o->Aside (fun k=>v.ownBlock=some k) w W->(∀k,(Value.slice q o.length cap).ownBlock=some k->v.ownBlock=some k∨w.1.size<=k)->wpList Tryz.prog ops Q rest (a.put y.dst (.slice q o.length cap)) W):
  wpList Tryz.prog ops Q (y::rest) a (w.alloc (.cells #[.int .u8 z] 5)):=by
 subst O;have R:At (w.alloc (.cells #[.int .u8 z] 5)) (some ⟨w.1.size,0,none⟩) [c]:=by
  refine .inr ⟨_,_,rfl,by simp,fun j D=>?_⟩;have V:j=0:=by simp at D;omega
  subst V;rw[World.cell?_alloc_new,a1];rfl
 have A:Aside (fun k=>v.ownBlock=some k) w (w.alloc (.cells #[.int .u8 z] 5)):=(Aside.refl _ _).alloc _;refine iF (l:=[c]) (c:=1) (ah.alloc _) R (by simpa using Y) (Nat.le_trans J A.size) ak U Z aj a0 ?_;intro o q cap W I K M X;refine L o q cap W I K (A.trans M (fun _ _ h=>h)) (fun j D=>?_);rcases X j D with h | h
 ·exact .inl h
 ·exact .inr (Nat.le_trans A.size h)
section
variable {B g:Nat} {v:Value} {s:Dv.St} {x k:Nat} {w:World}
theorem uE{o I n:Nat}(A:Has w B v xs)(y:w.1[o]?=some (.cells #[.int .i64 n] 3))(K:w.1[I]?=some (.cells #[.slice p l.length c] 22))(O:At w p l)(Y:∀b E,p=some ⟨b,E,none⟩->b≠o)(a5:n<l.length)(be:l.length<=2097152)(bd:xs.length<=2097152)(a1:B<=w.1.size)(z:UInt8)(X:z=l[n]):
  Calls Tryz.prog 51 #[v,.pointer (some ⟨o,0,none⟩),.pointer (some ⟨I,0,none⟩)] w fun e w'=>∃q cap,e=.returned (.slice q (xs++[z]).length cap)∧Has w' B (.slice q (xs++[z]).length cap) (xs++[z])∧Aside (fun k=>k=o∨v.ownBlock=some k) w w'∧w'.1[o]?=some (.cells #[.int .i64 ((n:Int)+1)] 3)∧∀k,(Value.slice q (xs++[z]).length cap).ownBlock=some k->v.ownBlock=some k∨w.1.size<=k:=by
 have a9:=eK y;have fn:=tv y;have a8:=eK K;have bk:I≠o:=by
  rintro rfl;rw[K] at y;injection y with h1;injection h1 with h2 h3
  revert h3
  decide
 have M:v.ownBlock≠some o:=dk A y (by decide);have J:Aside (·=o) w (w.setCell ⟨o,0,none⟩ (.int .i64 ((n:Int)+1))):=(Aside.refl (·=o) w).setCell (p:=⟨o,0,none⟩) (.inl rfl) _;have R:=A.aside J (fun j L D=>M (by rw[L,D]));have V:=uQ y (.int .i64 ((n:Int)+1));obtain⟨b,E,rfl,bb,D⟩:=aL O (by omega);have bc:w.cell? ⟨b,E+n,none⟩=some (.int .u8 (z.toNat:Int)):=by rw[X];exact D n a5
 have bl:=Y b E rfl;have aj:=xX R;have Z:=xX J;have ah:=xX V;have ak:=xX M;have a4:=dt y;obtain⟨bn,a7,a6,-,-⟩:=A.at;subst a6;have bj:(n:Int)<(l.length:Int):=by omega
 clear O A y K D X Y J R V M;go_enter Tryz.func51,Tryz.ntmps51;go_wp2_with (at_builtin;refine qV aj.out z (by omega) (by simpa[World.setCell] using a1) rfl rfl rfl rfl rfl rfl (by simp[World.setCell]) ?_;intro bp q cap W a0 a2 U a3);go_ret;rw[<-a0.out];refine⟨q,cap,rfl,a2,?_,?_,fun j L=>?_⟩
 ·exact(Z.out.mono (fun _ _ h=>.inl h)).trans U (fun _ _ h=>.inr h)
 ·rw[U.block o (by simpa[World.setCell] using a4) ak.out];exact ah.out
 ·rcases a3 j L with h | h
  ·exact .inl h
  ·exact .inr (by simpa[World.setCell] using h)
def WrI(w:World)(B g:Nat)(v:Value)(s:Dv.St)(p:OA)(c:Nat)(l:L8)(i:Nat)(wr:World):Prop :=
 ∃t v' x' k',aH wr B g v' t x' k'∧Dv.lay s l=Dv.lay t (l.drop i)∧wr.1[w.1.size+1]?=some (.cells #[.int .i64 (i:Int)] 3)∧wr.1[w.1.size]?=some (.cells #[.slice p l.length c] 22)∧Aside (fun j=>j=g∨v.ownBlock=some j) w wr ∧
  (∀j,v'.ownBlock=some j->v.ownBlock=some j∨w.1.size<=j)∧t.safe<=t.b.length∧t.b.length<=s.b.length+i∧t.done<=s.done+i
theorem ly{wr:World}{i:Nat}(h:WrI w B g v s p c l i wr)(a1:i<l.length)(bX:g<w.1.size)(Z:At w p l)(a3:∀b U,p=some ⟨b,U,none⟩->¬(b=g∨v.ownBlock=some b))(b1:s.b.length+l.length<=2097152)(bT:s.done+l.length<4611686018427387904)(bs:B<=w.1.size):
  Calls Tryz.prog 52 #[.pointer (some ⟨g,0,none⟩),.func (.func 51) #[] #[.pointer (some ⟨w.1.size+1,0,none⟩),.pointer (some ⟨w.1.size,0,none⟩)]] wr fun e w'=>
   (e=.returned (.int .i64 0)∧WrI w B g v s p c l (i+1) w')∨(e=.returned (.int .i64 51)∧(Dv.lay s l).1=true∧eN w B g v (51,(Dv.lay s l).2) (.returned (.int .i64 51)) w'):=by
 obtain⟨t,Y,b4,bk,E,D,a0,aj,I,X,be,b0,bO⟩:=h;have a9:l.drop i=l[i]::l.drop (i+1):=List.drop_eq_getElem_cons a1;rw[a9,Dv.lay] at D;have a5:At wr p l:=Z.aside I a3;obtain⟨b,U,bd,bN,-⟩:=aL Z (by omega);cases hm:Dv.may t with
 |true=>
  rw[if_pos (by rw[hm])] at D;refine(td 51 #[.pointer (some ⟨w.1.size+1,0,none⟩),.pointer (some ⟨w.1.size,0,none⟩)] (fun u l' V=>∃q cap,u=.slice q (t.b++[l[i]]).length cap∧l'=t.b++[l[i]]∧Aside (fun j=>j=g∨j=w.1.size+1∨Y.ownBlock=some j) wr V∧V.1[w.1.size+1]?=some (.cells #[.int .i64 ((i:Int)+1)] 3)∧V.1[w.1.size]?=some (.cells #[.slice p l.length c] 22)∧∀j,u.ownBlock=some j->Y.ownBlock=some j∨wr.1.size<=j) E hm (by omega) (fun args w=>dX Tryz.func51 (by kernel_rfl) rfl args w) (fun w' b5 a2 A=>?_)).mono ?_
  ·have a8:w'.1[w.1.size+1]?=some (.cells #[.int .i64 (i:Int)] 3):=(by rw[A.block _ (dt a0) (by omega)];exact a0);have M:w'.1[w.1.size]?=some (.cells #[.slice p l.length c] 22):=(by rw[A.block _ (dt aj) (by omega)];exact aj);have ah:=E.has.aside A (fun j z o=>E.apart (by rw[z,o]));have a4:At w' p l:=a5.aside A (fun b U R o=>a3 b U R (.inl o));have a6:B<=w'.1.size:=(by have:=I.size;have:=A.size;omega);refine(uE ah a8 M a4 (fun bq b2 R=>by rw[bd] at R;cases R;omega) a1 (by omega) (by omega) a6 l[i] rfl).mono ?_;rintro e V ⟨q,cap,rfl,a7,J,O,W⟩;have bj:Y.ownBlock≠some w.1.size:=dk ah M (by decide);refine⟨_,t.b++[l[i]],rfl,a7,?_,q,cap,rfl,rfl,?_,O,?_,fun j z=>?_⟩
   ·rw[J.block g (dt a2) (fun o=>by
     rcases o with o | o
     ·omega
     ·exact E.apart o)]
    exact a2
   ·exact(A.mono (fun _ _ h=>.inl h)).trans J (fun _ _ h=>.inr h)
   ·rw[J.block w.1.size (dt M) (fun o=>by
     rcases o with o | o
     ·omega
     ·exact bj o)]
    exact M
   ·rcases W j z with y | y
    ·exact .inl y
    ·exact .inr (Nat.le_trans A.size y)
  ·rintro e bn ⟨rfl,u,l',b3,bp,⟨q,cap,rfl,rfl,J,O,ak,W⟩,K,L⟩;refine .inl ⟨rfl,{ Dv.did t with b:=t.b++[l[i]] },.slice q (t.b++[l[i]]).length cap,bp,bk,?_,D,?_,?_,?_,fun j z=>?_,?_,?_,?_⟩
   ·have bb:min t.safe (t.b++[l[i]]).length=t.safe:=(by rw[List.length_append];omega);rw[bb] at L;exact L
   ·rw[K.block _ (dt O) (by omega),O]
    push_cast
    rfl
   ·rw[K.block _ (dt ak) (by omega)];exact ak
   ·refine I.trans (J.trans K (fun _ _ h=>.inl h)) (fun j z o=>?_);rcases o with o | o | o
    ·exact .inl o
    ·omega
    ·rcases X j o with y | y
     ·exact .inr y
     ·omega
   ·rcases W j z with y | y
    ·exact X j y
    ·exact .inr (by have:=I.size;omega)
   ·show t.safe<=(t.b++[l[i]]).length;rw[List.length_append];omega
   ·show(t.b++[l[i]]).length<=_;rw[List.length_append];simp;omega
   ·show t.done+1<=_;omega
 |false=>
  rw[if_neg (by rw[hm];simp)] at D;refine(ou _ E hm be (by omega)).mono ?_;rintro e bn ⟨rfl,bl,L,K,bc⟩;refine .inr ⟨rfl,by rw[D],rfl,bl,0,0,?_,I.trans K (fun _ _ h=>.inl h),fun j z=>X j (by rw[<-bc];exact z)⟩;rw[D];exact L
theorem lw(h:aH w B g v s x k)(z:s.safe<=s.b.length)(j:Nat):
  WrI w B g v s p c l 0 (((w.alloc (.cells #[.slice p l.length c] 22)).drewN j).alloc (.cells #[.int .i64 0] 3)):=by
 have hb:Below w.1.size w (((w.alloc (.cells #[.slice p l.length c] 22)).drewN j).alloc (.cells #[.int .i64 0] 3)):=(below_drewN xV j).alloc (by simp) _;refine⟨s,v,x,k,h.below hb,by rw[List.drop_zero],?_,?_,ae hb _,fun _ h=>.inl h,z,by omega,by omega⟩
 ·have:=bB ((w.alloc (.cells #[.slice p l.length c] 22)).drewN j) (.cells #[.int .i64 0] 3);simpa using this
 ·have o:=bB w (.cells #[.slice p l.length c] 22);have y:(((w.alloc (.cells #[.slice p l.length c] 22)).drewN j).alloc (.cells #[.int .i64 0] 3)).1[w.1.size]?=(w.alloc (.cells #[.slice p l.length c] 22)).1[w.1.size]?:=by
   show((w.alloc (.cells #[.slice p l.length c] 22)).1.push _)[w.1.size]?=_;rw[Array.getElem?_push,if_neg (by simp)]
  exact y.trans o
theorem vW(h:aH w B g v s x k)(p:OA)(c:Nat)(l:L8)(bO:l.length<=140737488351232)(y:At w p l)(z:l≠[]->∀b o,p=some ⟨b,o,none⟩->¬(b=g∨v.ownBlock=some b))(bk:s.safe<=s.b.length)(bT:s.b.length<=2097152)(bX:s.most<=1048576)(bN:s.done<4611686018425290752)(a9:B<=w.1.size):
  Calls Tryz.prog 18 #[.pointer (some ⟨g,0,none⟩),.slice p l.length c] w (eN w B g v (Dv.write s l)):=by
 have bc:=h.lt;have V:Below w.1.size w (w.alloc (.cells #[.slice p l.length c] 22)):=xV;have U:=xX (h.below V);have O:Hid (Aside (fun i=>i=g∨v.ownBlock=some i) w (w.alloc (.cells #[.slice p l.length c] 22))):=ae V _;have ah:=xX (fun j=>lw (p:=p) (c:=c) (l:=l) h bk j);have c0:w.cell? ⟨g,0,none⟩=some v:=h.cell 0;have c1:w.cell? ⟨g,1,none⟩=some (.int .i64 s.most):=h.cell 1;have aj:w.cell? ⟨g,5,none⟩=some (.bool s.down):=h.cell 5;obtain⟨q,cap,bn,-,bs⟩:=h.has.at;subst bn;clear h V;by_cases hd:s.down=true
 ·have HE:Hid (Dv.write s l=(50,s)):=by show _=_;unfold Dv.write;rw[if_pos hd]
  rw[hd] at aj;clear hd y z;go_enter Tryz.func18,Tryz.ntmps18;go_wp2;go_ret;unfold eN;rw[HE.out];exact⟨rfl,_,_,_,U.out,O.out,fun _ h=>.inl h⟩
 ·have J:s.down=false:=by simpa using hd
  rw[J] at aj;by_cases E:l=[]
  ·subst E;have HE:Hid (Dv.write s []=(0,s)):=(by show _=_;unfold Dv.write;rw[if_neg hd,if_neg (by simp)];simp[Dv.lay]);clear hd J y z;go_enter Tryz.func18,Tryz.ntmps18;go_wp2;go_quiet (fail);go_wp2;go_loopw [35] (fun A wr=>A=.int .i64 0∧Hid (WrI w B g (.slice q s.b.length cap) s p c [] 0 wr)) (fun _ _=>0);case atStart=>exact⟨rfl,ah.out _⟩
   case round=>
    obtain⟨rfl,D⟩:=hrel;have R:Hid (eN w B g (.slice q s.b.length cap) (Dv.write s []) (.returned (.int .i64 0)) wr):=by
     obtain⟨t,Y,Z,X,W,L,-,-,I,M,-⟩:=D.out;have K:s=t:=(by simpa[Dv.lay] using L);show eN _ _ _ _ _ _ _;rw[HE.out,K];rw[K] at I M;exact⟨rfl,Y,Z,X,W,I,M⟩
    go_wp2;go_ret;exact R.out
  ·have b0:=List.length_pos_iff.2 E;have bj:(0:Int)<(l.length:Int):=(by omega);have bq:decide ((0:Int)<(l.length:Int))=true:=decide_eq_true bj;by_cases a4:s.most<s.b.length+l.length
   ·have HE:Hid (Dv.write s l=(52,s)):=(by show _=_;unfold Dv.write;rw[if_neg hd,if_pos ⟨E,a4⟩]);have bl:(s.most:Int)-(s.b.length:Int)<(l.length:Int):=(by omega);clear hd J y z;go_enter Tryz.func18,Tryz.ntmps18;go_wp2;go_quiet (fail);go_wp2;go_ret;unfold eN;rw[HE.out];exact⟨rfl,_,_,_,U.out.drewN _,O.out.drewN _,fun _ h=>.inl h⟩
   ·have HE:Hid (Dv.write s l=(if (Dv.lay s l).1 then 51 else 0,(Dv.lay s l).2)):=(by show _=_;unfold Dv.write;rw[if_neg hd,if_neg (fun h=>a4 h.2)]);have bl:¬(s.most:Int)-(s.b.length:Int)<(l.length:Int):=(by omega);have a8:=xX (fun i wr (bb:WrI w B g (.slice q s.b.length cap) s p c l i wr) (a1:i<l.length)=>ly bb a1 bc y (z E) (by omega) (by omega) a9);clear hd J y z U O;go_enter Tryz.func18,Tryz.ntmps18;go_wp2;go_quiet (fail);go_wp2;go_loopw [35] (fun A wr=>∃i:Nat,i<=l.length∧A=.int .i64 i∧Hid (WrI w B g (.slice q s.b.length cap) s p c l i wr)) (fun A _=>l.length-(intOf A).toNat);case atStart=>exact⟨0,by omega,rfl,ah.out _⟩
    case round=>
     obtain⟨i,a1,rfl,D⟩:=hrel;by_cases bd:i<l.length
     ·have be:(i:Int)<(l.length:Int):=(by omega);go_wp2_with fail;refine(a8.out i wr D.out bd).mono ?_;rintro e w1 (⟨rfl,ak⟩ | ⟨rfl,a3,a0⟩)
      ·have a5:=xX ak;clear ak;go_wp2;go_roundw;case rel=>exact⟨i+1,by omega,by go_num,a5.out⟩
       case measure=>simp[intOf];omega
      ·have a6:=xX a3;have a7:=xX a0;clear a3 a0;go_wp2;go_ret;rw[HE.out,a6.out];exact a7.out
     ·have a2:i=l.length:=(by omega);have be:¬(i:Int)<(l.length:Int):=(by omega);have R:Hid (eN w B g (.slice q s.b.length cap) (Dv.write s l) (.returned (.int .i64 0)) wr):=by
       obtain⟨t,Y,Z,X,W,L,-,-,I,M,-⟩:=D.out;rw[a2,List.drop_length] at L;have K:Dv.lay s l=(false,t):=L.trans (by simp[Dv.lay]);show eN _ _ _ _ _ _ _;rw[HE.out,K];exact⟨rfl,Y,Z,X,W,I,M⟩
      clear a2;go_wp2;go_ret;exact R.out
end
end Go.Proofs.YtdkammppnkhhoaaGreatDoor
