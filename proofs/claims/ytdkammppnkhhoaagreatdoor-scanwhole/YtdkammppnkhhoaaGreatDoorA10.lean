import Derived.Test.YtdkammppnkhhoaaGreatDoorB10
set_option maxRecDepth 100000
set_option maxHeartbeats 4000000
namespace Go.Proofs.YtdkammppnkhhoaaGreatDoor
variable{c e g n:Nat}{w w1 w2 w3 w4:World}{l:L8}{k:Int}{q:OA}{u:AV}{s:List Col}{x:Ty}
section
open Go.RowKit
def gE(a:Nat):Except Nat (Nat×Nat)->Value
 |.error e=>.tuple #[.int .u64 0,.int .i64 0,.int .i64 (e:Nat)]
 |.ok (n,k)=>.tuple #[.int .u64 (n:Nat),.int .i64 ((a+k:Nat):Int),.int .i64 0]
theorem sX(l:L8)(a:Nat):eF l (a:Int)=gE a (Sch.num (l.drop a)):=by
 by_cases z:a<l.length
 ·by_cases h:(Leb.get (l.drop a)).err=0
  ·have e:Leb.get (l.drop a)=⟨0,(Leb.get (l.drop a)).n,(Leb.get (l.drop a)).k⟩:=(by rw[<-h]);rw[iz l a _ _ e,Sch.num,if_pos h];simp only[gE];rfl
  ·have hb:=Leb.getF_bad 10 true (l.drop a) h;have e:Leb.get (l.drop a)=⟨(Leb.get (l.drop a)).err,0,0⟩:=by
    have o:(Leb.get (l.drop a)).n=0:=hb.1;have y:(Leb.get (l.drop a)).k=0:=hb.2;generalize Leb.get (l.drop a)=g at *
    cases g
    simp_all
   rw[cY l a _ h e,Sch.num,if_neg h];rfl
 ·rw[fU l a (by omega),List.drop_eq_nil_of_le (by omega)];rfl
theorem fH(p:OA)(c:Nat)(l:L8)(a:Nat)(o:l.length<=140737488351232)(w:World)(h:At w p l):
  Calls Tryz.prog 113 #[.slice p l.length c,.int .i64 a] w fun e w'=>e=.returned (gE a (Sch.num (l.drop a)))∧w'=w:=by
 rw[<-sX];exact iX p c l a o w h
def jl(a:Nat):Except Nat (Nat×Nat)->Value
 |.error e=>.tuple #[.int .i64 0,.int .i64 0,.int .i64 (e:Nat)]
 |.ok (n,k)=>.tuple #[.int .i64 (n:Nat),.int .i64 ((a+k:Nat):Int),.int .i64 0]
theorem kF(p:OA)(l:L8)(c a:Nat)(O:l.length<=140737488351232)(M:a<=l.length)(w:World)(h:At w p l):Calls Tryz.prog 147 #[.slice p l.length c,.int .i64 a] w fun e w'=>e=.returned (jl a (Sch.bit (l.drop a)))∧w'=w:=by
 by_cases E:a<l.length
 ·obtain⟨b,R,rfl,hb,D⟩:=aL h (by omega);have c0:=D a E;have J:¬(l.length:Int)<=(a:Int):=by omega
  have K:(a:Int)<(l.length:Int):=by omega
  have y:Hid (Sch.bit (l.drop a)=if 1<l[a].toNat then .error 5 else .ok (l[a].toNat,1)):=by
   show _=_;rw[List.drop_eq_getElem_cons E,Sch.bit]
  have L:=l[a].toNat_lt;generalize l[a].toNat=A at *
  clear D h;by_cases z:1<A
  ·have I:(1:Int)<(A:Int):=(by omega);have o:Hid (jl a (Sch.bit (l.drop a))=.tuple #[.int .i64 0,.int .i64 0,.int .i64 5]):=(by show _=_;rw[y.out,if_pos z];rfl);clear y z;go_enter Tryz.func147,Tryz.ntmps147;go_wp2
   go_ret3
   exact⟨by rw[o.out];rfl,rfl⟩
  ·have I:¬(1:Int)<(A:Int):=(by omega);have o:Hid (jl a (Sch.bit (l.drop a))=.tuple #[.int .i64 (A:Nat),.int .i64 ((a:Int)+1),.int .i64 0]):=(by show _=_;rw[y.out,if_neg z];simp[jl]);clear y z;go_enter Tryz.func147,Tryz.ntmps147;go_wp2
   go_ret3
   exact⟨by rw[o.out];rfl,rfl⟩
 ·have J:(l.length:Int)<=(a:Int):=by omega
  have o:Hid (jl a (Sch.bit (l.drop a))=.tuple #[.int .i64 0,.int .i64 0,.int .i64 30]):=by show _=_;rw[List.drop_eq_nil_of_le (by omega)];rfl
  clear h;go_enter Tryz.func147,Tryz.ntmps147;go_wp2
  go_ret3
  exact⟨by rw[o.out];rfl,rfl⟩
def iJ(a:Nat):Except Nat (ByteArray×Nat)->Value
 |.error e=>.tuple #[.string ⟨#[]⟩,.int .i64 0,.int .i64 (e:Nat)]
 |.ok (t,k)=>.tuple #[.string t,.int .i64 ((a+k:Nat):Int),.int .i64 0]
theorem lT(p:OA)(l:L8)(c a m g:Nat)(a4:l.length<=140737488351232)(bk:l.length<=c)(a9:a<=l.length)(bl:m<=1024)(w:World)(h:At w p l):Calls Tryz.prog 143 #[.slice p l.length c,.int .i64 a,.int .i64 m,.int .i64 g] w fun e w'=>e=.returned (iJ a (Sch.text m g (l.drop a)))∧w'=w:=by
 have z:=xX (fH p c l a a4 w h);obtain⟨E,W⟩:∃E,E=Sch.text m g (l.drop a):=⟨_,rfl⟩;have y:=xX (W.trans (by rw[Sch.text]:Sch.text m g (l.drop a)=_));rw[<-W];clear W;cases hn:Sch.num (l.drop a) with
 |error e=>
  rw[hn] at z y;have A:Hid (E=.error e):=y.out;have a3:e≠0:=by
   intro D;rw[Sch.num] at hn;split at hn
   ·cases hn
   ·next h0=>injection hn with hn;rw[hn] at h0;exact h0 D
  have a8:((e:Int) != 0)=true:=by rw[bne_iff_ne];omega
  clear y hn h a3;simp only[gE] at z;go_enter Tryz.func143,Tryz.ntmps143;go_wp2_with fail;refine z.out.mono ?_;rintro e w1 ⟨rfl,o⟩;rw[o];clear o w1;go_wp2
  go_ret3
  exact⟨by rw[A.out];rfl,rfl⟩
 |ok nk=>
  obtain⟨n,k⟩:=nk;rw[hn] at z y;obtain⟨bp,r,O,K⟩:=Sch.num_ok hn;have bj:k<=l.length-a:=by
   have:=congrArg List.length O;rw[List.length_drop,List.length_append,<-K] at this;omega
  simp only[gE] at z;have a2:(l.drop a).length=l.length-a:=List.length_drop;simp only[a2] at y;have be:1<=k:=by rw[K];exact Leb.put_length_pos n
  obtain⟨b,Y,rfl,hb,D⟩:=aL h (by omega);have bn:(m:Int)<=1024:=by omega
  have L:((a+k:Nat):Int)=(a:Int)+(k:Int):=by omega
  rw[L] at z;by_cases I:m<n
  ·have a0:(m:Int)<(n:Int):=(by omega);have A:Hid (E=.error g):=(by show _=_;rw[y.out];exact if_pos I);clear y hn h D I O K L;go_enter Tryz.func143,Tryz.ntmps143;go_wp2_with fail;refine z.out.mono ?_;rintro e w1 ⟨rfl,o⟩;rw[o];clear o w1;go_wp2
   go_ret3
   exact⟨by rw[A.out];rfl,rfl⟩
  have a0:¬(m:Int)<(n:Int):=by omega
  have bq:(n:Int)<=1024:=by omega
  by_cases M:l.length-a-k<n
  ·have a1:(l.length:Int)-((a:Int)+(k:Int))<(n:Int):=(by omega);have A:Hid (E=.error 30):=(by show _=_;rw[y.out];exact(if_neg I).trans (if_pos M));clear y hn h D I M O K L;go_enter Tryz.func143,Tryz.ntmps143;go_wp2_with fail;refine z.out.mono ?_;rintro e w1 ⟨rfl,o⟩;rw[o];clear o w1;go_wp2
   go_ret3
   exact⟨by rw[A.out];rfl,rfl⟩
  have a1:¬(l.length:Int)-((a:Int)+(k:Int))<(n:Int):=by omega
  obtain⟨x,R⟩:∃x,x=((l.drop a).drop k).take n:=⟨_,rfl⟩;have a7:x.length=n:=by rw[R,List.length_take,List.length_drop,List.length_drop];omega
  have A:Hid (E=.ok (textOf x,k+n)):=by show _=_;rw[y.out,R];exact(if_neg I).trans (if_neg M)
  have ah:At w (some ⟨b,Y+(a+k),none⟩) x:=by
   refine .inr ⟨b,_,rfl,hb,?_⟩;rw[R,List.drop_drop];exact dq (cu D (a+k)) n
  have aj:=fun J=>dO ah J;rw[a7] at aj;have ak:c=a+k->∀J,(convert 22 9 (.slice (some ⟨b,Y,none⟩) n J)).run Tryz.prog w=.ok (.string (textOf x)) w:=fun bc J=>by
   have a5:n=0:=(by omega);have a6:x=[]:=List.eq_nil_of_length_eq_zero (by omega);have:=dO (w:=w) (p:=some ⟨b,Y,none⟩) (l:=[]) (.inl rfl) J;rw[a5,a6];exact this
  have U:=xX ak;have Z:Hid (iJ a E=.tuple #[.string (textOf x),.int .i64 ((a:Int)+(k:Int)+(n:Int)),.int .i64 0]):=by
   show _=_;rw[A.out];simp only[iJ];rw[show((a+(k+n):Nat):Int)=(a:Int)+(k:Int)+(n:Int) by omega]
  clear y hn h D I M O K L ah R ak A;by_cases X:c=a+k
  ·have bd:=U.out X;clear U aj;subst X;go_enter Tryz.func143,Tryz.ntmps143;go_wp2_with fail;refine z.out.mono ?_;rintro e w1 ⟨rfl,o⟩;rw[o];clear o w1;go_wp2
   go_ret3
   exact⟨by rw[Z.out];rfl,rfl⟩
  ·have bb:¬a+k=c:=fun D=>X D.symm;clear U;go_enter Tryz.func143,Tryz.ntmps143;go_wp2_with fail;refine z.out.mono ?_;rintro e w1 ⟨rfl,o⟩;rw[o];clear o w1;go_wp2
   go_ret3
   exact⟨by rw[Z.out];rfl,rfl⟩
def fz(a:Nat):Except Nat (Nat×Nat)->Value
 |.error e=>.tuple #[.float .f64 0,.int .i64 0,.int .i64 (e:Nat)]
 |.ok (n,k)=>.tuple #[.float .f64 n,.int .i64 ((a+k:Nat):Int),.int .i64 0]
theorem oL(l:L8)(i:Nat)(h:i<l.length):Sch.un (l.drop i)=Sch.un (l.drop (i+1))*256+l[i].toNat:=by
 rw[List.drop_eq_getElem_cons h,Sch.un]
theorem pN(p:OA)(l:L8)(c a:Nat)(bl:l.length<=140737488351232)(be:a<=l.length)(w:World)(h:At w p l):Calls Tryz.prog 186 #[.slice p l.length c,.int .i64 a] w fun e w'=>e=.returned (fz a (Sch.float (l.drop a)))∧w'=w:=by
 by_cases I:l.length-a<8
 ·have a2:(l.length:Int)-(a:Int)<8:=by omega
  have y:Hid (fz a (Sch.float (l.drop a))=.tuple #[.float .f64 0,.int .i64 0,.int .i64 30]):=by show _=_;rw[Sch.float,if_pos (by rw[List.length_drop];exact I)];rfl
  clear h I;go_enter Tryz.func186,Tryz.ntmps186;go_wp2
  go_ret3
  exact⟨by rw[y.out];rfl,rfl⟩
 have a2:¬(l.length:Int)-(a:Int)<8:=by omega
 obtain⟨b,o,rfl,hb,Y⟩:=aL h (by omega);obtain⟨x,J⟩:∃x,x=(l.drop a).take 8:=⟨_,rfl⟩;have a9:x.length=8:=by rw[J,List.length_take,List.length_drop];omega
 have U:Hid (∀i (M:i<x.length),w.cell? ⟨b,o+(a+i),none⟩=some (.int .u8 (x[i].toNat:Int))):=fun i M=>by
  rw[Y (a+i) (by omega)];simp only[J,List.getElem_take,List.getElem_drop]
 have A:Hid (Sch.float (l.drop a)=if aE (Sch.un x)=Sch.un x then .ok (Sch.un x,8) else .error 5):=by show _=_;rw[Sch.float,if_neg (by rw[List.length_drop];exact I),<-J]
 have a8:Sch.un x<18446744073709551616:=by have:=Sch.un_lt x;rw[a9] at this;simpa using this
 have W:Hid (∀i,i<=8->Sch.un (x.drop i)*256 ^ i<=Sch.un x):=by
  intro i M;induction i with
  |zero=>simp
  |succ i ih=>
   have a4:=ih (by omega);rw[oL x i (by omega),Nat.add_mul] at a4;rw[Nat.pow_succ];have:Sch.un (x.drop (i+1))*(256 ^ i*256)=Sch.un (x.drop (i+1))*256*256 ^ i:=(by rw[Nat.mul_comm (256 ^ i) 256,Nat.mul_assoc]);omega
 clear h Y J I;go_enter Tryz.func186,Tryz.ntmps186;go_wp2_with fail;go_loop [7,8] (fun a0 L=>(∃i:Nat,i<=7∧L=.int .i64 i∧a0=.int .u64 (Sch.un (x.drop (i+1)):Nat))∨(L=.int .i64 (-1)∧a0=.int .u64 (Sch.un x:Nat))) (fun _ L=>(intOf L+1).toNat);case atStart=>exact .inl ⟨7,by omega,rfl,by rw[List.drop_eq_nil_of_le (by omega)];rfl⟩
 case round=>
  rcases hrel with ⟨i,M,rfl,rfl⟩ | ⟨rfl,rfl⟩
  ·have a1:=U.out i (by omega);have K:=oL x i (by omega);have Z:=W.out i (by omega);have a7:1<=256 ^ i:=Nat.one_le_pow _ _ (by decide);have a6:Sch.un (x.drop i)<=Sch.un x:=Nat.le_trans (Nat.le_mul_of_pos_right _ (by omega)) Z;have bb:=(x[i]'(by omega)).toNat_lt;obtain⟨R,ak⟩:∃R,R=Sch.un (x.drop (i+1)):=⟨_,rfl⟩;obtain⟨O,aj⟩:∃O,O=(x[i]'(by omega)).toNat:=⟨_,rfl⟩;rw[<-ak] at K ⊢;rw[<-aj] at K a1 bb;have X:=xX K;have bj:R*256+O<18446744073709551616:=(by omega);have bd:(0:Int)<=(i:Int):=(by omega);have bk:(a:Int)+(i:Int)<(l.length:Int):=(by omega);clear Z a6 a7 K ak aj;go_wp2;go_round;case rel=>
    by_cases a5:i=0
    ·subst a5;right;refine⟨by go_num,?_⟩;have e:=X.out;rw[List.drop_zero] at e;rw[e];go_num
    ·left;refine⟨i-1,by omega,by go_num,?_⟩;rw[show i-1+1=i by omega,X.out];go_num
   case measure=>simp[intOf]
  ·have z:=xX (pJ (Sch.un x:Nat) w);have HBt:=xX (aX (aE (Sch.un x)) w);rw[Int.toNat_natCast] at z;rw[eR] at HBt;obtain⟨n,ah⟩:∃n,n=Sch.un x:=⟨_,rfl⟩;rw[<-ah] at A z HBt a8 ⊢;clear ah U W;go_wp2_with fail;refine z.out.mono ?_;rintro e w1 ⟨rfl,E⟩;rw[E];clear E w1;go_wp2_with fail;refine HBt.out.mono ?_;rintro e w1 ⟨rfl,E⟩;rw[E];clear E w1;by_cases D:aE n=n
   ·have a3:((aE n:Int) != (n:Int))=false:=cd (by omega);have y:Hid (fz a (Sch.float (l.drop a))=.tuple #[.float .f64 (aE n),.int .i64 ((a:Int)+8),.int .i64 0]):=by
     show _=_;rw[A.out,if_pos D,D];simp[fz]
    clear A D z HBt;go_wp2
    go_ret3
    exact⟨by rw[y.out];rfl,rfl⟩
   ·have a3:((aE n:Int) != (n:Int))=true:=bz (by omega);have y:Hid (fz a (Sch.float (l.drop a))=.tuple #[.float .f64 0,.int .i64 0,.int .i64 5]):=(by show _=_;rw[A.out,if_neg D];rfl);clear A D z HBt;go_wp2
    go_ret3
    exact⟨by rw[y.out];rfl,rfl⟩
end
section
open Go.RowKit
attribute [local go_sem] am
def jq(w:World)(a:Nat)(r:Except Nat (V×Nat))(e:Ending)(w':World):Prop:=match r with
 |.error er=>e=.returned (.tuple #[.agg (cells5 0 0 0 ⟨#[]⟩ none 0 0),.int .i64 0,.int .i64 (er:Nat)])∧Below w.1.size w w'
 |.ok (v,k)=>∃u,e=.returned (.tuple #[.agg u,.int .i64 ((a+k:Nat):Int),.int .i64 0])∧bg w' (fun k=>w.1.size<=k∧k<w'.1.size) u v∧Below w.1.size w w'
theorem eT(h:Sch.bit l=.error e):e≠0:=by
 cases l with
 |nil=>rw[Sch.bit] at h;injection h with h;omega
 |cons c r=>
  rw[Sch.bit] at h;split at h
  ·injection h with h;omega
  ·cases h
theorem dC(h:Sch.num l=.error e):e≠0:=by
 intro o;rw[Sch.num] at h;split at h
 ·cases h
 ·next h0=>injection h with h;rw[h] at h0;exact h0 o
theorem ki(h:Sch.float l=.error e):e≠0:=by
 rw[Sch.float] at h;split at h
 ·injection h with h;omega
 ·split at h
  ·cases h
  ·injection h with h;omega
theorem fE{m:Nat}(o:g≠0){l:L8}{e:Nat}(h:Sch.text m g l=.error e):e≠0:=by
 rw[Sch.text] at h;split at h
 ·next e' he=>injection h with h;rw[<-h];exact dC he
 ·split at h
  ·injection h with h;omega
  ·split at h
   ·injection h with h;omega
   ·cases h
theorem aV(w:World)(o y:Obj):((w.alloc o).alloc y).1[w.1.size]?=some o:=by rw[aG _ _ (by simp)];exact ag w o
theorem pI(p:OA)(l:L8)(c a:Nat)(J:l.length<=140737488351232)(I:a<=l.length)(w:World)(h:At w p l):Calls Tryz.prog 169 #[.int .i64 1,.slice p l.length c,.int .i64 a] w (jq w a (Sch.scalar 1 (l.drop a))):=by
 have o:=xX (fun w' (hb:Below w.1.size w w')=>kF p l c a J I w' (h.on hb));have z:Hid (∀D E,Below w.1.size w ((w.alloc D).alloc E)):=fun D E=>xV.alloc (by simp) _;cases hn:Sch.bit (l.drop a) with
 |error er=>
  have A:Hid (Sch.scalar 1 (l.drop a)=.error er):=by show _=_;rw[Sch.scalar,if_pos rfl,hn]
  rw[hn] at o;have K:((er:Int) != 0)=true:=by have:=eT hn;rw[bne_iff_ne];omega
  clear h hn;simp only[jl] at o;rw[A.out];go_enter Tryz.func169,Tryz.ntmps169;go_wp2_with fail;refine(o.out _ (z.out _ _)).mono ?_;rintro e w1 ⟨rfl,y⟩;rw[y];clear y w1;go_wp2;refine bodyPost_ret (af rfl _ _ w.1.size _ _ _ _ rfl (aV w _ _) Tryz.underlying77 rfl (by kernel_rfl)) rfl ?_;exact⟨rfl,z.out _ _⟩
 |ok nk=>
  obtain⟨n,k⟩:=nk;have A:Hid (Sch.scalar 1 (l.drop a)=.ok (.mk 1 n 0 ⟨#[]⟩ [],k)):=by show _=_;rw[Sch.scalar,if_pos rfl,hn]
  rw[hn] at o;simp only[jl] at o;rw[A.out];clear h hn;go_enter Tryz.func169,Tryz.ntmps169;go_wp2_with fail;refine(o.out _ (z.out _ _)).mono ?_;rintro e w1 ⟨rfl,y⟩;rw[y];clear y w1;go_wp2;refine bodyPost_ret (af rfl _ _ w.1.size _ _ _ _ rfl (aV w _ _) Tryz.underlying77 rfl (by kernel_rfl)) rfl ?_;exact⟨_,by rw[show((a+k:Nat):Int)=(a:Int)+(k:Int) by omega];rfl,.none,z.out _ _⟩
theorem pH(p:OA)(l:L8)(c a:Nat)(J:l.length<=140737488351232)(_:a<=l.length)(w:World)(h:At w p l):Calls Tryz.prog 169 #[.int .i64 2,.slice p l.length c,.int .i64 a] w (jq w a (Sch.scalar 2 (l.drop a))):=by
 have y:=xX (fun w' (hb:Below w.1.size w w')=>fH p c l a J w' (h.on hb));have z:Hid (∀D E,Below w.1.size w ((w.alloc D).alloc E)):=fun D E=>xV.alloc (by simp) _;cases hn:Sch.num (l.drop a) with
 |error er=>
  have A:Hid (Sch.scalar 2 (l.drop a)=.error er):=by show _=_;rw[Sch.scalar,if_neg (by decide),if_pos rfl,hn]
  rw[hn] at y;have L:((er:Int) != 0)=true:=by have:=dC hn;rw[bne_iff_ne];omega
  clear h hn;simp only[gE] at y;rw[A.out];go_enter Tryz.func169,Tryz.ntmps169;go_wp2_with fail;refine(y.out _ (z.out _ _)).mono ?_;rintro e w1 ⟨rfl,o⟩;rw[o];clear o w1;go_wp2_with fail;refine(iQ 0 (by decide) _).mono ?_;rintro e w1 ⟨rfl,o⟩;rw[o];clear o w1;go_wp2;refine bodyPost_ret (af rfl _ _ w.1.size _ _ _ _ rfl (aV w _ _) Tryz.underlying77 rfl (by kernel_rfl)) rfl ?_;exact⟨rfl,z.out _ _⟩
 |ok nk=>
  obtain⟨n,k⟩:=nk;have A:Hid (Sch.scalar 2 (l.drop a)=.ok (.mk 2 (Leb.zag n) 0 ⟨#[]⟩ [],k)):=by show _=_;rw[Sch.scalar,if_neg (by decide),if_pos rfl,hn]
  rw[hn] at y;simp only[gE] at y;have K:=(Sch.num_ok hn).1;have I:=xX (iQ n K);rw[A.out];clear h hn;go_enter Tryz.func169,Tryz.ntmps169;go_wp2_with fail;refine(y.out _ (z.out _ _)).mono ?_;rintro e w1 ⟨rfl,o⟩;rw[o];clear o w1;go_wp2_with fail;refine(I.out _).mono ?_;rintro e w1 ⟨rfl,o⟩;rw[o];clear o w1;go_wp2;refine bodyPost_ret (af rfl _ _ w.1.size _ _ _ _ rfl (aV w _ _) Tryz.underlying77 rfl (by kernel_rfl)) rfl ?_;exact⟨_,by rw[show((a+k:Nat):Int)=(a:Int)+(k:Int) by omega];rfl,.none,z.out _ _⟩
theorem pG(p:OA)(l:L8)(c a:Nat)(J:l.length<=140737488351232)(I:a<=l.length)(w:World)(h:At w p l):Calls Tryz.prog 169 #[.int .i64 3,.slice p l.length c,.int .i64 a] w (jq w a (Sch.scalar 3 (l.drop a))):=by
 have o:=xX (fun w' (hb:Below w.1.size w w')=>pN p l c a J I w' (h.on hb));have z:Hid (∀D E,Below w.1.size w ((w.alloc D).alloc E)):=fun D E=>xV.alloc (by simp) _;cases hn:Sch.float (l.drop a) with
 |error er=>
  have A:Hid (Sch.scalar 3 (l.drop a)=.error er):=by show _=_;rw[Sch.scalar,if_neg (by decide),if_neg (by decide),if_pos rfl,hn]
  rw[hn] at o;have K:((er:Int) != 0)=true:=by have:=ki hn;rw[bne_iff_ne];omega
  clear h hn;simp only[fz] at o;rw[A.out];go_enter Tryz.func169,Tryz.ntmps169;go_wp2_with fail;refine(o.out _ (z.out _ _)).mono ?_;rintro e w1 ⟨rfl,y⟩;rw[y];clear y w1;go_wp2;refine bodyPost_ret (af rfl _ _ w.1.size _ _ _ _ rfl (aV w _ _) Tryz.underlying77 rfl (by kernel_rfl)) rfl ?_;exact⟨rfl,z.out _ _⟩
 |ok nk=>
  obtain⟨n,k⟩:=nk;have A:Hid (Sch.scalar 3 (l.drop a)=.ok (.mk 3 0 n ⟨#[]⟩ [],k)):=by show _=_;rw[Sch.scalar,if_neg (by decide),if_neg (by decide),if_pos rfl,hn]
  rw[hn] at o;simp only[fz] at o;rw[A.out];clear h hn;go_enter Tryz.func169,Tryz.ntmps169;go_wp2_with fail;refine(o.out _ (z.out _ _)).mono ?_;rintro e w1 ⟨rfl,y⟩;rw[y];clear y w1;go_wp2;refine bodyPost_ret (af rfl _ _ w.1.size _ _ _ _ rfl (aV w _ _) Tryz.underlying77 rfl (by kernel_rfl)) rfl ?_;exact⟨_,by rw[show((a+k:Nat):Int)=(a:Int)+(k:Int) by omega];rfl,.none,z.out _ _⟩
theorem nw(y:Int)(R:y=4∨y=5)(p:OA)(l:L8)(c a:Nat)(Z:l.length<=140737488351232)(ah:l.length<=c)(X:a<=l.length)(w:World)(h:At w p l):Calls Tryz.prog 169 #[.int .i64 y,.slice p l.length c,.int .i64 a] w (jq w a (Sch.scalar y (l.drop a))):=by
 have A:=xX (fun w' (hb:Below w.1.size w w')=>lT p l c a 1024 2 Z ah X (by omega) w' (h.on hb));have z:Hid (∀U W,Below w.1.size w ((w.alloc U).alloc W)):=fun U W=>xV.alloc (by simp) _
 have E:Sch.scalar y (l.drop a)=match Sch.text 1024 2 (l.drop a) with
   |.error e=>.error e
   |.ok (t,j)=>if y=4∧cK t=false then .error 61 else .ok (.mk y 0 0 t [],j):=by
  rw[Sch.scalar,if_neg (by omega),if_neg (by omega),if_neg (by omega)];rfl
 cases hn:Sch.text 1024 2 (l.drop a) with
 |error er=>
  have J:Hid (Sch.scalar y (l.drop a)=.error er):=by show _=_;rw[E,hn]
  rw[hn] at A;have ak:((er:Int) != 0)=true:=by have:=fE (by decide) hn;rw[bne_iff_ne];omega
  have D:=xX (kA ⟨#[]⟩ (Nat.zero_le _));have O:U8.utf (⟨#[]⟩:ByteArray).data.toList=true:=rfl;rw[O] at D;clear h hn E O;simp only[iJ] at A;rw[J.out];rcases R with rfl | rfl
  all_goals
   go_enter Tryz.func169,Tryz.ntmps169;go_wp2_with fail;refine(A.out _ (z.out _ _)).mono ?_;rintro e w1 ⟨rfl,o⟩;rw[o];clear o w1;go_wp2_with fail;refine(D.out _).mono ?_;rintro e w1 ⟨rfl,o⟩;rw[o];clear o w1;go_wp2;refine bodyPost_ret (af rfl _ _ w.1.size _ _ _ _ rfl (aV w _ _) Tryz.underlying77 rfl (by kernel_rfl)) rfl ?_;exact⟨rfl,z.out _ _⟩
 |ok tk=>
  obtain⟨t,k⟩:=tk;have L:Sch.scalar y (l.drop a)=if y=4∧cK t=false then .error 61 else .ok (.mk y 0 0 t [],k):=by rw[E,hn]
  have aj:=(Sch.text_ok hn).1;rw[hn] at A;simp only[iJ] at A;have D:=xX (kA t (by omega));obtain⟨I,K⟩:∃I,I=cK t:=⟨_,rfl⟩;have M:U8.utf t.data.toList=I:=K.symm;rw[M] at D;rw[<-K] at L;have J:=xX L;rw[J.out];clear h hn E L M K aj;rcases R with rfl | rfl
  ·cases I with
   |false=>
    rw[if_pos ⟨rfl,rfl⟩];go_enter Tryz.func169,Tryz.ntmps169;go_wp2_with fail;refine(A.out _ (z.out _ _)).mono ?_;rintro e w1 ⟨rfl,o⟩;rw[o];clear o w1;go_wp2_with fail;refine(D.out _).mono ?_;rintro e w1 ⟨rfl,o⟩;rw[o];clear o w1;go_wp2;refine bodyPost_ret (af rfl _ _ w.1.size _ _ _ _ rfl (aV w _ _) Tryz.underlying77 rfl (by kernel_rfl)) rfl ?_;exact⟨rfl,z.out _ _⟩
   |true=>
    rw[if_neg (by decide)];go_enter Tryz.func169,Tryz.ntmps169;go_wp2_with fail;refine(A.out _ (z.out _ _)).mono ?_;rintro e w1 ⟨rfl,o⟩;rw[o];clear o w1;go_wp2_with fail;refine(D.out _).mono ?_;rintro e w1 ⟨rfl,o⟩;rw[o];clear o w1;go_wp2;refine bodyPost_ret (af rfl _ _ w.1.size _ _ _ _ rfl (aV w _ _) Tryz.underlying77 rfl (by kernel_rfl)) rfl ?_;exact⟨_,by rw[show((a+k:Nat):Int)=(a:Int)+(k:Int) by omega];rfl,.none,z.out _ _⟩
  ·rw[if_neg (fun Y=>absurd Y.1 (by decide))];go_enter Tryz.func169,Tryz.ntmps169;go_wp2_with fail;refine(A.out _ (z.out _ _)).mono ?_;rintro e w1 ⟨rfl,o⟩;rw[o];clear o w1;go_wp2_with fail;refine(D.out _).mono ?_;rintro e w1 ⟨rfl,o⟩;rw[o];clear o w1;go_wp2;refine bodyPost_ret (af rfl _ _ w.1.size _ _ _ _ rfl (aV w _ _) Tryz.underlying77 rfl (by kernel_rfl)) rfl ?_;exact⟨_,by rw[show((a+k:Nat):Int)=(a:Int)+(k:Int) by omega];rfl,.none,z.out _ _⟩
theorem nv(o:Int)(D:1<=o∧o<=5)(p:OA)(l:L8)(c a:Nat)(z:l.length<=140737488351232)(A:l.length<=c)(y:a<=l.length)(w:World)(h:At w p l):Calls Tryz.prog 169 #[.int .i64 o,.slice p l.length c,.int .i64 a] w (jq w a (Sch.scalar o (l.drop a))):=by
 rcases(show o=1∨o=2∨o=3∨(o=4∨o=5) by omega) with rfl | rfl | rfl | hk45
 ·exact pI p l c a z y w h
 ·exact pH p l c a z y w h
 ·exact pG p l c a z y w h
 ·exact nw o hk45 p l c a z A y w h
end
section
open Go.RowKit
attribute [local go_sem] am
theorem sE(h:Sch.many k l=.error e):e≠0:=by
 rw[Sch.many] at h;split at h
 ·exact eT h
 ·split at h
  ·next e' he=>injection h with h;rw[<-h];exact dC he
  ·split at h
   ·injection h with h;omega
   ·cases h
theorem m9(h:Sch.scalar k l=.error e):e≠0:=by
 rw[Sch.scalar] at h;split at h
 ·split at h
  ·next e' he=>injection h with h;rw[<-h];exact eT he
  ·cases h
 split at h
 ·split at h
  ·next e' he=>injection h with h;rw[<-h];exact dC he
  ·cases h
 split at h
 ·split at h
  ·next e' he=>injection h with h;rw[<-h];exact ki he
  ·cases h
 split at h
 ·next e' he=>injection h with h;rw[<-h];exact fE (by decide) he
 ·split at h
  ·injection h with h;omega
  ·cases h
theorem oP{f:L8->Except Nat (V×Nat)}(o:∀l e,f l=.error e->e≠0):∀(m:Nat) (l:L8) (e:Nat),Sch.rdN f m l=.error e->e≠0
 |0,l,e,h=>by rw[Sch.rdN] at h;cases h
 |m+1,l,e,h=>by
  rw[Sch.rdN] at h;split at h
  ·next e' he=>injection h with h;rw[<-h];exact o l e' he
  ·next v j hv=>
   split at h
   ·next e' he=>injection h with h;rw[<-h];exact oP o m _ _ he
   ·cases h
theorem kG:∀(t:Ty) (d:Nat) (l:L8) (e:Nat),Ty.check d t=0->Sch.rdV t l=.error e->e≠0:=by
 intro t;refine Ty.ind (P:=fun t=>∀(d:Nat) (l:L8) (e:Nat),Ty.check d t=0->Sch.rdV t l=.error e->e≠0) ?_ t;intro k xs E d l e z h;obtain⟨hd,I,A⟩:=Sch.ty_open z;rw[Sch.rdV_mk] at h;rcases A with ⟨y,rfl⟩ | ⟨y,x,rfl,D⟩
 ·rw[if_pos (by omega)] at h;exact m9 h
 ·rw[if_neg (by omega)] at h;split at h
  ·next e' o=>injection h with h;rw[<-h];exact sE o
  ·split at h
   ·next e' o=>
    injection h with h;rw[<-h];exact oP (fun l e o=>E x (by simp) (d+1) l e D o) _ _ _ o
   ·cases h
def glue(ys:List V)(n:Nat):Except Nat (List V×Nat)->Except Nat (List V×Nat)
 |.error e=>.error e
 |.ok (vs,k)=>.ok (ys++vs,n+k)
theorem gF(ys:List V)(n:Nat)(v:V)(j:Nat)(r:Except Nat (List V×Nat)):glue ys n (glue [v] j r)=glue (ys++[v]) (n+j) r:=by
 cases r with
 |error e=>rfl
 |ok p=>simp[glue,Nat.add_assoc]
def iL(f:L8->Except Nat (V×Nat))(m:Nat)(l:L8):Except Nat (V×Nat)->Except Nat (List V×Nat)
 |.error e=>.error e
 |.ok (v,j)=>glue [v] j (Sch.rdN f m (l.drop j))
theorem fM(f:L8->Except Nat (V×Nat))(m:Nat)(l:L8):Sch.rdN f (m+1) l=iL f m l (f l):=by
 rw[Sch.rdN];cases f l with
 |error e=>rfl
 |ok p=>
  obtain⟨v,j⟩:=p;rw[iL];dsimp only;cases Sch.rdN f m (l.drop j) with
  |error e=>rfl
  |ok q=>rfl
theorem bG(w:World)(y o:Obj):((w.alloc y).alloc o).1[w.1.size+1]?=some o:=by
 have:=ag (w.alloc y) o;simpa using this
theorem dK{o:World}{i:Int}{b:Nat}{t:ByteArray}{v:V}{F:Nat->Prop}(E:w1.1[w.1.size+1]?=some (.cells (cells5 0 0 0 ⟨#[]⟩ none 0 0) 77 (0,0)))(I:Below w.1.size w o)(L:w.1.size+2<=o.1.size)(hb:Below w.1.size o w1)(M:o.1.size<=w1.1.size)(K:bg w1 F (cells5 k i b t q n c) v)(z:∀j,F j->w.1.size+2<=j∧j<w1.1.size):
  (nN w1 (w.1.size+1) k i b t (.slice q n c)).1[w.1.size+1]?=some (.cells (cells5 k i b t q n c) 77 (0,0))∧bg (nN w1 (w.1.size+1) k i b t (.slice q n c)) (fun j=>w.1.size<=j∧j<(nN w1 (w.1.size+1) k i b t (.slice q n c)).1.size) (cells5 k i b t q n c) v∧Below w.1.size w (nN w1 (w.1.size+1) k i b t (.slice q n c)):=by
 have y:Aside (fun k=>k=w.1.size+1) w1 (nN w1 (w.1.size+1) k i b t (.slice q n c)):=by
  unfold nN;exact(((((Aside.refl (fun k=>k=w.1.size+1) w1).setCell (p:=⟨w.1.size+1,0,none⟩) (.inl rfl) _).setCell (p:=⟨w.1.size+1,1,none⟩) (.inl rfl) _).setCell (p:=⟨w.1.size+1,2,none⟩) (.inl rfl) _).setCell (p:=⟨w.1.size+1,3,none⟩) (.inl rfl) _).setCell (p:=⟨w.1.size+1,4,none⟩) (.inl rfl) _
 refine⟨?_,?_,?_⟩
 ·unfold nN;rw[an (an (an (an (an E 0 _) 1 _) 2 _) 3 _) 4 _];rfl
 ·exact(K.aside y (fun k D J=>by have:=z k D;omega)).mono (fun j A=>⟨by have:=z j A;omega,by have:=z j A;have:=y.size;omega⟩)
 ·exact(I.trans hb).trans (y.below (by omega) (fun k D J=>by omega))
structure dF(w:World)(C0:AV)(k:Int)(ys:List V)(v:Value)(wr:World):Prop where
 built:∃us Fs,bS wr (w.1.size+3) v ys.length us Fs ys
 b0:wr.1[w.1.size]?=some (.cells C0 73 (0,0))
 b1:wr.1[w.1.size+1]?=some (.cells (cells5 0 0 0 ⟨#[]⟩ none 0 0) 77 (0,0))
 b2:wr.1[w.1.size+2]?=some (.cells #[.int .i64 k,.int .i64 0,.float .f64 0,.string ⟨#[]⟩,v] 77 (0,0))
 below:Below w.1.size w wr
 size:w.1.size+3<=wr.1.size
section
variable {w wr:World} {C0:AV} {k:Int} {ys:List V} {v:Value}
theorem ff(w:World)(C0:AV)(k:Int):
  dF w C0 k [] (.slice none 0 0) (((w.alloc (.cells C0 73)).alloc (.cells (cells5 0 0 0 ⟨#[]⟩ none 0 0) 77)).alloc (.cells #[.int .i64 k,.int .i64 0,.float .f64 0,.string ⟨#[]⟩,.slice none 0 0] 77)):=by
 refine⟨⟨_,_,kq _ _⟩,?_,?_,?_,((((Below.refl _ w).alloc xZ _).alloc (by simp) _).alloc (by simp;omega) _),by simp⟩
 ·rw[aG _ _ (by simp;omega),aG _ _ (by simp)];exact ag w _
 ·rw[aG _ _ (by simp)];have:=ag (w.alloc (.cells C0 73)) (.cells (cells5 0 0 0 ⟨#[]⟩ none 0 0) 77);simpa using this
 ·have:=ag ((w.alloc (.cells C0 73)).alloc (.cells (cells5 0 0 0 ⟨#[]⟩ none 0 0) 77)) (.cells #[.int .i64 k,.int .i64 0,.float .f64 0,.string ⟨#[]⟩,.slice none 0 0] 77);simpa using this
theorem dF.slice(h:dF w C0 k ys v wr):∃p c,v=.slice p ys.length c:=by
 obtain⟨us,Fs,hb⟩:=h.built;rcases hb.row.2 with ⟨o,y⟩ | ⟨g,cap,z,o,_⟩
 ·exact⟨none,0,by rw[o,y]⟩
 ·exact⟨_,cap,o⟩
theorem dF.next{F:Nat->Prop}{cap:Nat}{us:Nat->AV}{Fs:Nat->Nat->Prop}{D:V}(h:dF w C0 k ys v wr)(z:bS wr (w.1.size+3) v ys.length us Fs ys)(hb:Below wr.1.size wr w2)(R:bg w2 F u D)(E:∀k,F k->wr.1.size<=k∧k<w2.1.size)(o:Below w2.1.size w2 w3)(L:w4.ownsRow (w.1.size+3) 77 5 (.slice (some ⟨g,0,none⟩) (ys.length+1) cap) (ys.length+1) (flat us ys.length++u.toList))(y:w3.grownBy w4 v.ownBlock)(A:v.ownBlock=some g∨g=w3.1.size):
  (∀n,n<3->w4.1[w.1.size+n]?=wr.1[w.1.size+n]?)∧dF w C0 k (ys++[D]) (.slice (some ⟨g,0,none⟩) (ys.length+1) cap) (w4.setCell ⟨w.1.size+2,4,none⟩ (.slice (some ⟨g,0,none⟩) (ys.length+1) cap)):=by
 have M:=h.size;have U:=hb.size;have W:=o.size;have O:=z.step hb R E o M L y A;have hold:∀n,n<3->w4.1[w.1.size+n]?=wr.1[w.1.size+n]?:=fun n A=>by
  rw[y.block _ (by omega) (fun J=>by have:=(z.lt _ J.symm).1;omega),o.block _ (by omega),hb.block _ (by omega)]
 have I:Below w.1.size w w4:=((h.below.trans (hb.mono (by omega))).trans (o.mono (by omega))).grown y (by omega) (fun k K=>by have:=(z.lt k K).1;omega);refine⟨hold,⟨⟨(fun n=>if n=ys.length then u else us n),(fun n=>if n=ys.length then F else Fs n),?_⟩,?_,?_,?_,?_,?_⟩⟩
 ·rw[List.length_append,List.length_singleton];exact O.set ⟨w.1.size+2,4,none⟩ _ (by show w.1.size+2<_;omega)
 ·have:=hold 0 (by omega);rw[Nat.add_zero] at this;exact cD (this.trans h.b0) _ _ (by show w.1.size≠w.1.size+2;omega)
 ·exact cD ((hold 1 (by omega)).trans h.b1) _ _ (by show w.1.size+1≠w.1.size+2;omega)
 ·rw[an ((hold 2 (by omega)).trans h.b2)];rfl
 ·exact I.setCell (by show w.1.size<=w.1.size+2;omega) _
 ·have:=y.size;simp[World.setCell];omega
end
theorem lS(p:OA)(l:L8)(c:Nat)(en:l.length<=140737488351232)(f3:l.length<=c):∀(x:Ty) (d:Nat) (a:Nat) (w:World) (u:AV),Ty.check d x=0->aD w u x->a<=l.length->At w p l->Calls Tryz.prog 148 #[.agg u,.slice p l.length c,.int .i64 a] w (jq w a (Sch.rdV x (l.drop a))):=by
  intro x;refine Ty.ind (P:=fun x=>∀(d:Nat) (a:Nat) (w:World) (u:AV),Ty.check d x=0->aD w u x->a<=l.length->At w p l->Calls Tryz.prog 148 #[.agg u,.slice p l.length c,.int .i64 a] w (jq w a (Sch.rdV x (l.drop a)))) ?_ x;intro k xs eC d a w u hd eu e4 dr;obtain⟨q,b6,rfl,gN,gL,ez⟩:=eu.open;unfold al;obtain⟨gq,gs,f7⟩:=Sch.ty_open hd;rcases f7 with ⟨e3,rfl⟩ | ⟨e3,x,rfl,ew⟩
  · have gl:(k != 6)=true:=bz (by omega);have gm:(k != 7)=true:=bz (by omega);have bc:Hid (Sch.rdV (.mk k []) (l.drop a)=Sch.scalar k (l.drop a)):=(by show _=_;rw[Sch.rdV_mk,if_pos (by omega)]);have e8:=xX (fun w' (hb:Below w.1.size w w')=>nv k (by omega) p l c a en f3 e4 w' (dr.on hb));rw[bc.out];clear eC ez dr hd eu;go_enter Tryz.func148,Tryz.ntmps148;have bb:Hid (∀I c8,Below w.1.size w ((w.alloc I).alloc c8)):=fun I c8=>xV.alloc (by simp) _;go_wp2_with fail;obtain⟨b5,cp⟩:∃b5,b5=(w.alloc (.cells #[.int .i64 k,.slice q 0 b6] 73)).alloc (.cells #[.int .i64 0,.int .i64 0,.float .f64 0,.string ⟨#[]⟩,.slice none 0 0] 77):=⟨_,rfl⟩;rw[<-cp];have ds:Hid (Below w.1.size w b5):=(by rw[cp];exact bb.out _ _);have f6:b5.1.size=w.1.size+2:=(by rw[cp];simp);have e0:Hid (b5.1[w.1.size+1]?=some (.cells (cells5 0 0 0 ⟨#[]⟩ none 0 0) 77 (0,0))):=by
      show _=_;rw[cp];have:=ag (w.alloc (.cells #[.int .i64 k,.slice q 0 b6] 73)) (.cells #[.int .i64 0,.int .i64 0,.float .f64 0,.string ⟨#[]⟩,.slice none 0 0] 77);simpa[cells5] using this
    clear cp;refine(e8.out b5 ds.out).mono ?_;intro e w1 J;cases hsc:Sch.scalar k (l.drop a) with
    |error er=>
      rw[hsc] at J;obtain⟨rfl,ah⟩:=J;have z:w1.1[w.1.size+1]?=some (.cells (cells5 0 0 0 ⟨#[]⟩ none 0 0) 77 (0,0)):=(ah.block _ (by omega)).trans e0.out;have cq:=dK (q:=none) (n:=0) (c:=0) (F:=fun _=>False) (v:=.mk 0 0 0 ⟨#[]⟩ []) z ds.out (by omega) (ah.mono (by omega)) ah.size bg.none (fun _ h=>h.elim);have A:=xX cq;obtain⟨bl,bn,bp,bq,bs⟩:=cQ5 z;have bN:=ab z 0;have bO:=ab z 1;have bT:=ab z 2;have bX:=ab z 3;have b3:=ab z 4;have d3:=xX hsc;clear ah z cq hsc;unfold cells5;go_wp2;refine bodyPost_ret (af rfl _ _ (w.1.size+1) _ _ _ _ rfl A.out.1 Tryz.underlying77 rfl (by kernel_rfl)) rfl ?_;rw[d3.out];exact⟨rfl,A.out.2.2⟩
    |ok vk=>
      obtain⟨R,o⟩:=vk;rw[hsc] at J;obtain⟨u,rfl,K,ah⟩:=J;obtain⟨a6,a5,a2,a9,a8,a7,a3,rfl⟩:=K.shape;have z:w1.1[w.1.size+1]?=some (.cells (cells5 0 0 0 ⟨#[]⟩ none 0 0) 77 (0,0)):=(ah.block _ (by omega)).trans e0.out;have cq:=dK z ds.out (by omega) (ah.mono (by omega)) ah.size K (fun j b7=>by rw[f6] at b7;exact b7);have A:=xX cq;obtain⟨bl,bn,bp,bq,bs⟩:=cQ5 z;have bN:=ab z 0;have bO:=ab z 1;have bT:=ab z 2;have bX:=ab z 3;have b3:=ab z 4;have d3:=xX hsc;clear ah z cq hsc K;unfold cells5;go_wp2;refine bodyPost_ret (af rfl _ _ (w.1.size+1) _ _ _ _ rfl A.out.1 Tryz.underlying77 rfl (by kernel_rfl)) rfl ?_;rw[d3.out];exact⟨_,by rw[show((a+o:Nat):Int)=(a:Int)+(o:Int) by omega];rfl,A.out.2.1,A.out.2.2⟩
  · have O:Hid (Sch.rdV (.mk k [x]) (l.drop a)=match Sch.many k (l.drop a) with
        |.error e=>.error e
        |.ok (m,j)=>match Sch.rdN (Sch.rdV x) m ((l.drop a).drop j) with
          |.error e=>.error e
          |.ok (vs,j2)=>.ok (.mk k 0 0 ⟨#[]⟩ vs,j+j2)):=by show _=_;rw[Sch.rdV_mk,if_neg (by omega)];rfl
    obtain⟨e7,e6,e5⟩:=ez 0 (by simp);have df:Hid (aD w e7 x∧dH w q 0 e7):=⟨e6,e5⟩;have eU:=xX (fun a w u a4 ea fy=>eC x (by simp) (d+1) a w u ew a4 ea fy);have c9:=xX dr;have e1:Hid (∀l' e,Sch.rdV x l'=.error e->e≠0):=fun l' e=>kG x (d+1) l' e ew;have e2:Hid (∀l' v j,Sch.rdV x l'=.ok (v,j)->j<=l'.length):=fun l' v j K=>by
      obtain⟨a4,⟨r,ea⟩,-⟩:=Sch.rdV_ok x (d+1) l' v j ew K;rw[ea,List.length_append,a4];omega
    clear eC ez dr hd eu e6 e5;have bb:Hid (∀I c8,Below w.1.size w ((w.alloc I).alloc c8)):=fun I c8=>xV.alloc (by simp) _;rcases e3 with rfl | rfl
    · have dv:=xX (fun w' (hb:Below w.1.size w w')=>kF p l c a en e4 w' (c9.out.on hb));go_enter Tryz.func148,Tryz.ntmps148;go_wp2_with fail;refine(dv.out _ (bb.out _ _)).mono ?_;rintro e w1 ⟨rfl,c5⟩;rw[c5];clear c5 w1;cases hm:Sch.bit (l.drop a) with
      |error er=>
        simp only[jl];have d8:((er:Int) != 0)=true:=(by have:=eT hm;rw[bne_iff_ne];omega);have bc:Hid (Sch.rdV (.mk 6 [x]) (l.drop a)=.error er):=(by show _=_;rw[O.out,Sch.many,if_pos rfl,hm]);clear O hm dv;go_wp2;refine bodyPost_ret (af rfl _ _ (w.1.size+1) _ _ _ _ rfl (bG w _ _) Tryz.underlying77 rfl (by kernel_rfl)) rfl ?_;rw[bc.out];exact⟨rfl,bb.out _ _⟩
      |ok nk=>
        obtain⟨m,o⟩:=nk;simp only[jl];have cn:((a+o:Nat):Int)=(a:Int)+(o:Int):=(by omega);rw[cn];clear cn;have hb:=Sch.bit_ok hm;have gz:=hb.1;have f5:m<=256:=(by omega);have em:a+o<=l.length:=by
          obtain⟨-,a4,r,J⟩:=hb;have:=congrArg List.length J;rw[List.length_drop,List.length_cons] at this;omega
        have co:Sch.many 6 (l.drop a)=.ok (m,o):=by rw[Sch.many,if_pos rfl,hm]
        have cc:Sch.rdV (.mk 6 [x]) (l.drop a)=match Sch.rdN (Sch.rdV x) m (l.drop (a+o)) with
            |.error e=>.error e
            |.ok (vs,j2)=>.ok (.mk 6 0 0 ⟨#[]⟩ vs,o+j2):=by
          rw[O.out,co]
          show(match Sch.rdN (Sch.rdV x) m ((l.drop a).drop o) with
            |.error e=>.error e
            |.ok (vs,j2)=>.ok (.mk 6 0 0 ⟨#[]⟩ vs,o+j2):Except Nat (V×Nat))=_
          rw[List.drop_drop]
        clear O hm dv hb co;have bd:=xX cc;clear cc;go_wp2_with fail;go_loopw [10,14] (fun eS b4 wr=>∃(ys:List V) (n:Nat) (a1:OA) (Y:Nat),ys.length<=m∧b4=.int .i64 ys.length∧eS=.int .i64 ((a:Int)+(o:Int)+(n:Int))∧a+o+n<=l.length∧Hid (dF w #[.int .i64 6,.slice q 1 b6] 6 ys (.slice a1 ys.length Y) wr∧Sch.rdN (Sch.rdV x) m (l.drop (a+o))=glue ys n (Sch.rdN (Sch.rdV x) (m-ys.length) (l.drop (a+o+n))))) (fun _ b4 _=>m-(intOf b4).toNat);case atStart=>
          refine⟨[],0,none,0,by simp,rfl,by go_num,em,ff w _ _,?_⟩;rw[List.length_nil,Nat.sub_zero,Nat.add_zero];cases Sch.rdN (Sch.rdV x) m (l.drop (a+o)) with
          |error e=>rfl
          |ok q=>simp[glue]
        case round=>
          obtain⟨ys,n,a1,Y,f8,rfl,rfl,eq,U⟩:=hrel;have y:=xX U.out.1;have L:=xX U.out.2;by_cases ep:ys.length<m
          · have f4:(ys.length:Int)<(m:Int):=(by omega);obtain⟨bx,eL,f9,gf,gb,fi,rfl,f0,rfl,bj,bk⟩:=(df.out.2.on y.out.below).lies;rw[Nat.zero_mul,Nat.add_zero] at bj bk;have c7:wr.cell? ⟨w.1.size,1,none⟩=some (.slice (some ⟨bx,eL,none⟩) 1 b6):=aa y.out.b0 1;have E:=eU.out (a+o+n) wr _ (df.out.1.on y.out.below) eq (c9.out.on y.out.below);rw[show((a+o+n:Nat):Int)=(a:Int)+(o:Int)+(n:Int) by omega] at E
            replace E:=xX E
            unfold al at E;obtain⟨X,Z⟩:∃X,X=Sch.rdV x (l.drop (a+o+n)):=⟨_,rfl⟩;have ci:=xX Z;rw[<-Z] at E;have W:Hid (Sch.rdN (Sch.rdV x) m (l.drop (a+o))=glue ys n (iL (Sch.rdV x) (m-(ys.length+1)) (l.drop (a+o+n)) X)):=by
              show _=_;rw[L.out,show m-ys.length=(m-(ys.length+1))+1 by omega,fM,<-Z]
            clear Z U;go_wp2_with fail;refine E.out.mono ?_;intro e w2 J;cases X with
            |error er=>
              obtain⟨rfl,D⟩:=J;have eb:=e1.out _ er ci.out.symm;have d8:((er:Int) != 0)=true:=(by rw[bne_iff_ne];omega);have d0:Hid (Sch.rdV (.mk 6 [x]) (l.drop a)=.error er):=(by show _=_;rw[bd.out,W.out];rfl);have cy:=y.out.size;obtain⟨w3,ak⟩:∃w3,w3=w2.alloc (.cells #[.int .i64 0,.int .i64 0,.float .f64 0,.string ⟨#[]⟩,.slice none 0 0] 77):=⟨_,rfl⟩;have aj:Below wr.1.size wr w3:=(by rw[ak];exact D.alloc D.size _);have d5:=xX ak;have z:w3.1[w.1.size+1]?=some (.cells (cells5 0 0 0 ⟨#[]⟩ none 0 0) 77 (0,0)):=(aj.block _ (by omega)).trans y.out.b1;have A:=xX (dK (q:=none) (n:=0) (c:=0) (F:=fun _=>False) (v:=.mk 0 0 0 ⟨#[]⟩ []) z y.out.below (by omega) (aj.mono (by omega)) aj.size bg.none (fun _ h=>h.elim));obtain⟨bl,bn,bp,bq,bs⟩:=cQ5 z;have bN:=ab z 0;have bO:=ab z 1;have bT:=ab z 2;have bX:=ab z 3;have b3:=ab z 4;rw[ak] at bl bn bp bq bs bN bO bT bX b3;clear z aj D ak bj bk c7 E W L y;unfold cells5;go_wp2;rw[<-d5.out];refine bodyPost_ret (af rfl _ _ (w.1.size+1) _ _ _ _ rfl A.out.1 Tryz.underlying77 rfl (by kernel_rfl)) rfl ?_;rw[d0.out];exact⟨rfl,A.out.2.2⟩
            |ok vk=>
              obtain⟨R,a0⟩:=vk;obtain⟨gh,rfl,K,D⟩:=J;obtain⟨a6,a5,a2,a9,a8,a7,a3,rfl⟩:=K.shape;obtain⟨us,Fs,M⟩:=y.out.built;have el:=e2.out _ R a0 ci.out.symm;rw[List.length_drop] at el;have be:=xX K;have b8:=xX D;have cb:=xX M;have c2:∀I,(w2.alloc I).cell? ⟨w.1.size+2,4,none⟩=some (.slice a1 ys.length Y):=fun I=>by
                have a4:Below wr.1.size wr (w2.alloc I):=D.alloc D.size I;exact ac a4 (aa y.out.b2 4)
              have cy:w.1.size+3<=w2.1.size:=Nat.le_trans y.out.size D.size;have d4:Hid (Sch.rdN (Sch.rdV x) m (l.drop (a+o))=glue (ys++[R]) (n+a0) (Sch.rdN (Sch.rdV x) (m-(ys++[R]).length) (l.drop (a+o+(n+a0))))):=by
                show _=_;rw[W.out,iL,gF,List.length_append,List.length_singleton,List.drop_drop,Nat.add_assoc (a+o)]
              clear K D M bj bk c7 E W L;unfold cells5 at be ⊢;have b9:Hid (Below w2.1.size w2 ((w2.alloc (.cells #[.int .i64 a6,.int .i64 a5,.float .f64 a2,.string a9,.slice a8 a7 a3] 77)).alloc (.cells #[.int .i64 a6,.int .i64 a5,.float .f64 a2,.string a9,.slice a8 a7 a3] 77))):=xV.alloc (by simp) _
              go_wp2_with (at_builtin;refine ks (B:=w.1.size+3) (us:=us) ((cb.out.on b8.out).on b9.out).row (u:=#[.int .i64 a6,.int .i64 a5,.float .f64 a2,.string a9,.slice a8 a7 a3]) rfl (vP be.out) (ad:=w2.1.size+1) (bG w2 _ _) (by omega) (by simp;omega) rfl rfl rfl rfl rfl ?_;intro d9 d6 w4 cx cs cv;obtain⟨hold,ct⟩:=y.out.next cb.out b8.out be.out (fun _ h=>h) b9.out cx cs cv;have fs:=ab ((hold 2 (by omega)).trans y.out.b2) 4;have fx:w4.cell? ⟨w.1.size+2,4,none⟩=some (.slice a1 ys.length Y):=aa ((hold 2 (by omega)).trans y.out.b2) 4;have d1:=xX ct;clear hold ct cx cs cv)
              go_roundw;case rel=>exact⟨ys++[R],n+a0,some ⟨d9,0,none⟩,d6,by simp;omega,by simp,by go_num,by omega,⟨by simpa using d1.out,d4.out⟩⟩
              case measure=>simp[intOf];omega
          · have f2:¬(ys.length:Int)<(m:Int):=(by omega);have c6:ys.length=m:=(by omega);have cy:=y.out.size;have d2:Hid (Sch.rdV (.mk 6 [x]) (l.drop a)=.ok (.mk 6 0 0 ⟨#[]⟩ ys,o+n)):=by
              show _=_;rw[bd.out,L.out,c6,Nat.sub_self];simp[Sch.rdN,glue]
            obtain⟨us,Fs,M⟩:=y.out.built;obtain⟨gd,e9,ec,cw⟩:=M.done (by omega) 6 0 0 ⟨#[]⟩;injection ec with cj d7 ck;subst cj ck;have A:=xX (dK y.out.b1 y.out.below (by omega) xY xZ cw (fun j b7=>⟨by omega,b7.2⟩));obtain⟨fo,cj,d7,ck,fr⟩:=cQ5 y.out.b2;obtain⟨bl,bn,bp,bq,bs⟩:=cQ5 y.out.b1;have bN:=ab y.out.b1 0;have bO:=ab y.out.b1 1;have bT:=ab y.out.b1 2;have bX:=ab y.out.b1 3;have b3:=ab y.out.b1 4;clear U L bd M cw c6 ep;go_wp2;refine bodyPost_ret (af rfl _ _ (w.1.size+1) _ _ _ _ rfl A.out.1 Tryz.underlying77 rfl (by kernel_rfl)) rfl ?_;rw[d2.out];exact⟨_,by rw[show((a+(o+n):Nat):Int)=(a:Int)+(o:Int)+(n:Int) by omega];rfl,A.out.2.1,A.out.2.2⟩
    · have dd:=xX (fun w' (hb:Below w.1.size w w')=>fH p c l a en w' (c9.out.on hb));go_enter Tryz.func148,Tryz.ntmps148;go_wp2_with fail;refine(dd.out _ (bb.out _ _)).mono ?_;rintro e w1 ⟨rfl,c5⟩;rw[c5];clear c5 w1;cases hm:Sch.num (l.drop a) with
      |error er=>
        simp only[gE];have eb:=dC hm;have d8:((er:Int) != 0)=true:=(by rw[bne_iff_ne];omega);have gn:((er:Int)==0)=false:=aK (by omega);have bc:Hid (Sch.rdV (.mk 7 [x]) (l.drop a)=.error er):=(by show _=_;rw[O.out,Sch.many,if_neg (by decide),hm]);clear O hm dd eb;go_wp2;refine bodyPost_ret (af rfl _ _ (w.1.size+1) _ _ _ _ rfl (bG w _ _) Tryz.underlying77 rfl (by kernel_rfl)) rfl ?_;rw[bc.out];exact⟨rfl,bb.out _ _⟩
      |ok nk=>
        obtain⟨m,o⟩:=nk;simp only[gE];have cn:((a+o:Nat):Int)=(a:Int)+(o:Int):=(by omega);rw[cn];clear cn;have hb:=Sch.num_ok hm;have em:a+o<=l.length:=by
          obtain⟨-,r,J,gt⟩:=hb;have:=congrArg List.length J;rw[List.length_drop,List.length_append] at this;omega
        by_cases dp:256<m
        · have fv:(256:Int)<(m:Int):=(by omega);have bc:Hid (Sch.rdV (.mk 7 [x]) (l.drop a)=.error 3):=by
            show _=_;rw[O.out,Sch.many,if_neg (by decide),hm];dsimp only;rw[if_pos dp]
          clear O hm dd hb dp;go_wp2;refine bodyPost_ret (af rfl _ _ (w.1.size+1) _ _ _ _ rfl (bG w _ _) Tryz.underlying77 rfl (by kernel_rfl)) rfl ?_;rw[bc.out];exact⟨rfl,bb.out _ _⟩
        have fv:¬(256:Int)<(m:Int):=(by omega);have f5:m<=256:=(by omega);have co:Sch.many 7 (l.drop a)=.ok (m,o):=by
          rw[Sch.many,if_neg (by decide),hm];dsimp only;rw[if_neg dp]
        have cc:Sch.rdV (.mk 7 [x]) (l.drop a)=match Sch.rdN (Sch.rdV x) m (l.drop (a+o)) with
            |.error e=>.error e
            |.ok (vs,j2)=>.ok (.mk 7 0 0 ⟨#[]⟩ vs,o+j2):=by
          rw[O.out,co]
          show(match Sch.rdN (Sch.rdV x) m ((l.drop a).drop o) with
            |.error e=>.error e
            |.ok (vs,j2)=>.ok (.mk 7 0 0 ⟨#[]⟩ vs,o+j2):Except Nat (V×Nat))=_
          rw[List.drop_drop]
        clear O hm dd hb co dp;have bd:=xX cc;clear cc;go_wp2_with fail;go_loopw [10,14] (fun eS b4 wr=>∃(ys:List V) (n:Nat) (a1:OA) (Y:Nat),ys.length<=m∧b4=.int .i64 ys.length∧eS=.int .i64 ((a:Int)+(o:Int)+(n:Int))∧a+o+n<=l.length∧Hid (dF w #[.int .i64 7,.slice q 1 b6] 7 ys (.slice a1 ys.length Y) wr∧Sch.rdN (Sch.rdV x) m (l.drop (a+o))=glue ys n (Sch.rdN (Sch.rdV x) (m-ys.length) (l.drop (a+o+n))))) (fun _ b4 _=>m-(intOf b4).toNat);case atStart=>
          refine⟨[],0,none,0,by simp,rfl,by go_num,em,ff w _ _,?_⟩;rw[List.length_nil,Nat.sub_zero,Nat.add_zero];cases Sch.rdN (Sch.rdV x) m (l.drop (a+o)) with
          |error e=>rfl
          |ok q=>simp[glue]
        case round=>
          obtain⟨ys,n,a1,Y,f8,rfl,rfl,eq,U⟩:=hrel;have y:=xX U.out.1;have L:=xX U.out.2;by_cases ep:ys.length<m
          · have f4:(ys.length:Int)<(m:Int):=(by omega);obtain⟨bx,eL,f9,gf,gb,fi,rfl,f0,rfl,bj,bk⟩:=(df.out.2.on y.out.below).lies;rw[Nat.zero_mul,Nat.add_zero] at bj bk;have c7:wr.cell? ⟨w.1.size,1,none⟩=some (.slice (some ⟨bx,eL,none⟩) 1 b6):=aa y.out.b0 1;have E:=eU.out (a+o+n) wr _ (df.out.1.on y.out.below) eq (c9.out.on y.out.below);rw[show((a+o+n:Nat):Int)=(a:Int)+(o:Int)+(n:Int) by omega] at E
            replace E:=xX E
            unfold al at E;obtain⟨X,Z⟩:∃X,X=Sch.rdV x (l.drop (a+o+n)):=⟨_,rfl⟩;have ci:=xX Z;rw[<-Z] at E;have W:Hid (Sch.rdN (Sch.rdV x) m (l.drop (a+o))=glue ys n (iL (Sch.rdV x) (m-(ys.length+1)) (l.drop (a+o+n)) X)):=by
              show _=_;rw[L.out,show m-ys.length=(m-(ys.length+1))+1 by omega,fM,<-Z]
            clear Z U;go_wp2_with fail;refine E.out.mono ?_;intro e w2 J;cases X with
            |error er=>
              obtain⟨rfl,D⟩:=J;have eb:=e1.out _ er ci.out.symm;have d8:((er:Int) != 0)=true:=(by rw[bne_iff_ne];omega);have d0:Hid (Sch.rdV (.mk 7 [x]) (l.drop a)=.error er):=(by show _=_;rw[bd.out,W.out];rfl);have cy:=y.out.size;obtain⟨w3,ak⟩:∃w3,w3=w2.alloc (.cells #[.int .i64 0,.int .i64 0,.float .f64 0,.string ⟨#[]⟩,.slice none 0 0] 77):=⟨_,rfl⟩;have aj:Below wr.1.size wr w3:=(by rw[ak];exact D.alloc D.size _);have d5:=xX ak;have z:w3.1[w.1.size+1]?=some (.cells (cells5 0 0 0 ⟨#[]⟩ none 0 0) 77 (0,0)):=(aj.block _ (by omega)).trans y.out.b1;have A:=xX (dK (q:=none) (n:=0) (c:=0) (F:=fun _=>False) (v:=.mk 0 0 0 ⟨#[]⟩ []) z y.out.below (by omega) (aj.mono (by omega)) aj.size bg.none (fun _ h=>h.elim));obtain⟨bl,bn,bp,bq,bs⟩:=cQ5 z;have bN:=ab z 0;have bO:=ab z 1;have bT:=ab z 2;have bX:=ab z 3;have b3:=ab z 4;rw[ak] at bl bn bp bq bs bN bO bT bX b3;clear z aj D ak bj bk c7 E W L y;unfold cells5;go_wp2;rw[<-d5.out];refine bodyPost_ret (af rfl _ _ (w.1.size+1) _ _ _ _ rfl A.out.1 Tryz.underlying77 rfl (by kernel_rfl)) rfl ?_;rw[d0.out];exact⟨rfl,A.out.2.2⟩
            |ok vk=>
              obtain⟨R,a0⟩:=vk;obtain⟨gh,rfl,K,D⟩:=J;obtain⟨a6,a5,a2,a9,a8,a7,a3,rfl⟩:=K.shape;obtain⟨us,Fs,M⟩:=y.out.built;have el:=e2.out _ R a0 ci.out.symm;rw[List.length_drop] at el;have be:=xX K;have b8:=xX D;have cb:=xX M;have c2:∀I,(w2.alloc I).cell? ⟨w.1.size+2,4,none⟩=some (.slice a1 ys.length Y):=fun I=>by
                have a4:Below wr.1.size wr (w2.alloc I):=D.alloc D.size I;exact ac a4 (aa y.out.b2 4)
              have cy:w.1.size+3<=w2.1.size:=Nat.le_trans y.out.size D.size;have d4:Hid (Sch.rdN (Sch.rdV x) m (l.drop (a+o))=glue (ys++[R]) (n+a0) (Sch.rdN (Sch.rdV x) (m-(ys++[R]).length) (l.drop (a+o+(n+a0))))):=by
                show _=_;rw[W.out,iL,gF,List.length_append,List.length_singleton,List.drop_drop,Nat.add_assoc (a+o)]
              clear K D M bj bk c7 E W L;unfold cells5 at be ⊢;have b9:Hid (Below w2.1.size w2 ((w2.alloc (.cells #[.int .i64 a6,.int .i64 a5,.float .f64 a2,.string a9,.slice a8 a7 a3] 77)).alloc (.cells #[.int .i64 a6,.int .i64 a5,.float .f64 a2,.string a9,.slice a8 a7 a3] 77))):=xV.alloc (by simp) _
              go_wp2_with (at_builtin;refine ks (B:=w.1.size+3) (us:=us) ((cb.out.on b8.out).on b9.out).row (u:=#[.int .i64 a6,.int .i64 a5,.float .f64 a2,.string a9,.slice a8 a7 a3]) rfl (vP be.out) (ad:=w2.1.size+1) (bG w2 _ _) (by omega) (by simp;omega) rfl rfl rfl rfl rfl ?_;intro d9 d6 w4 cx cs cv;obtain⟨hold,ct⟩:=y.out.next cb.out b8.out be.out (fun _ h=>h) b9.out cx cs cv;have fs:=ab ((hold 2 (by omega)).trans y.out.b2) 4;have fx:w4.cell? ⟨w.1.size+2,4,none⟩=some (.slice a1 ys.length Y):=aa ((hold 2 (by omega)).trans y.out.b2) 4;have d1:=xX ct;clear hold ct cx cs cv)
              go_roundw;case rel=>exact⟨ys++[R],n+a0,some ⟨d9,0,none⟩,d6,by simp;omega,by simp,by go_num,by omega,⟨by simpa using d1.out,d4.out⟩⟩
              case measure=>simp[intOf];omega
          · have f2:¬(ys.length:Int)<(m:Int):=(by omega);have c6:ys.length=m:=(by omega);have cy:=y.out.size;have d2:Hid (Sch.rdV (.mk 7 [x]) (l.drop a)=.ok (.mk 7 0 0 ⟨#[]⟩ ys,o+n)):=by
              show _=_;rw[bd.out,L.out,c6,Nat.sub_self];simp[Sch.rdN,glue]
            obtain⟨us,Fs,M⟩:=y.out.built;obtain⟨gd,e9,ec,cw⟩:=M.done (by omega) 7 0 0 ⟨#[]⟩;injection ec with cj d7 ck;subst cj ck;have A:=xX (dK y.out.b1 y.out.below (by omega) xY xZ cw (fun j b7=>⟨by omega,b7.2⟩));obtain⟨fo,cj,d7,ck,fr⟩:=cQ5 y.out.b2;obtain⟨bl,bn,bp,bq,bs⟩:=cQ5 y.out.b1;have bN:=ab y.out.b1 0;have bO:=ab y.out.b1 1;have bT:=ab y.out.b1 2;have bX:=ab y.out.b1 3;have b3:=ab y.out.b1 4;clear U L bd M cw c6 ep;go_wp2;refine bodyPost_ret (af rfl _ _ (w.1.size+1) _ _ _ _ rfl A.out.1 Tryz.underlying77 rfl (by kernel_rfl)) rfl ?_;rw[d2.out];exact⟨_,by rw[show((a+(o+n):Nat):Int)=(a:Int)+(o:Int)+(n:Int) by omega];rfl,A.out.2.1,A.out.2.2⟩
end
section
open Go.RowKit
def xI(w:World)(a:Nat)(r:Except Nat (Ty×Nat))(e:Ending)(w':World):Prop:=match r with
 |.error er=>e=.returned (.tuple #[.agg (al 0 none 0 0),.int .i64 0,.int .i64 (er:Nat)])∧Below w.1.size w w'
 |.ok (t,k)=>∃u,e=.returned (.tuple #[.agg u,.int .i64 ((a+k:Nat):Int),.int .i64 0])∧aY w' (fun k=>w.1.size<=k∧k<w'.1.size) u t∧Below w.1.size w w'
theorem ip:∀(f:Nat) (l:L8) (e:Nat),Sch.rdT f l=.error e->e≠0
 |0,l,e,h=>by rw[Sch.rdT] at h;injection h with h;omega
 |f+1,[],e,h=>by rw[Sch.rdT] at h;injection h with h;omega
 |f+1,c::r,e,h=>by
  rw[Sch.rdT] at h;split at h
  ·injection h with h;omega
  split at h
  ·cases h
  split at h
  ·next e' he=>injection h with h;rw[<-h];exact ip f r e' he
  ·cases h
def nO(w:World)(g:Nat)(k:Int)(v:Value):World:=(w.setCell ⟨g,0,none⟩ (.int .i64 k)).setCell ⟨g,1,none⟩ v
theorem l8{F:Nat->Prop}(D:w1.1[w.1.size]?=some (.cells (al 0 none 0 0) 73 (0,0)))(hb:Below w.1.size w w1)(J:w.1.size+1<=w1.1.size)(I:aY w1 F (al k q n c) x)(y:∀j,F j->w.1.size+1<=j∧j<w1.1.size):
  (nO w1 w.1.size k (.slice q n c)).1[w.1.size]?=some (.cells (al k q n c) 73 (0,0))∧aY (nO w1 w.1.size k (.slice q n c)) (fun j=>w.1.size<=j∧j<(nO w1 w.1.size k (.slice q n c)).1.size) (al k q n c) x∧Below w.1.size w (nO w1 w.1.size k (.slice q n c)):=by
 have o:Aside (fun k=>k=w.1.size) w1 (nO w1 w.1.size k (.slice q n c)):=by
  unfold nO;exact((Aside.refl (fun k=>k=w.1.size) w1).setCell (p:=⟨w.1.size,0,none⟩) (.inl rfl) _).setCell (p:=⟨w.1.size,1,none⟩) (.inl rfl) _
 refine⟨?_,?_,?_⟩
 ·unfold nO;rw[an (an D 0 _) 1 _];rfl
 ·exact(I.aside o (fun k A E=>by have:=y k A;omega)).mono (fun j z=>⟨by have:=y j z;omega,by have:=y j z;have:=o.size;omega⟩)
 ·exact hb.trans (o.below (by omega) (fun k A E=>by omega))
theorem kD(p:OA)(l:L8)(c:Nat)(cp:l.length<=140737488351232):∀(f:Nat) (a:Nat) (w:World),f<=4->a<=l.length->At w p l->Calls Tryz.prog 146 #[.slice p l.length c,.int .i64 a,.int .i64 ((5-f:Nat):Int)] w (xI w a (Sch.rdT f (l.drop a))):=by
 intro f;induction f with
 |zero=>
  intro a w _ b8 X;have J:Hid (∀I,Below w.1.size w (w.alloc I)):=fun I=>xV;rw[Sch.rdT];clear X;go_enter Tryz.func146,Tryz.ntmps146;go_wp2;refine bodyPost_ret (af rfl _ _ w.1.size _ _ _ _ rfl (ag w _) Tryz.underlying73 rfl (by kernel_rfl)) rfl ?_;exact⟨rfl,J.out _⟩
 |succ f ih=>
  intro a w cb b8 X;have J:Hid (∀I,Below w.1.size w (w.alloc I)):=fun I=>xV;have hd:¬(4:Int)<((5-(f+1):Nat):Int):=by omega
  obtain⟨a4,a8⟩:∃a4,a4=5-(f+1):=⟨_,rfl⟩;rw[<-a8] at hd ⊢;by_cases b0:a<l.length
  ·obtain⟨b,I,rfl,hb,a7⟩:=aL X (by omega);have c0:∀I,(w.alloc I).cell? _=_:=fun I=>ac (J.out I) (a7 a b0);have b6:¬(l.length:Int)<=(a:Int):=(by omega);have co:(a:Int)<(l.length:Int):=by omega
   have HD:Hid (Sch.rdT (f+1) (l.drop a)=if l[a].toNat<1∨7<l[a].toNat then .error 60 else if l[a].toNat≠6∧l[a].toNat≠7 then .ok (⟨(l[a].toNat:Int),[]⟩,1) else match Sch.rdT f (l.drop (a+1)) with
     |.error e=>.error e
     |.ok (t,j)=>.ok (⟨(l[a].toNat:Int),[t]⟩,j+1)):=by
    show _=_;rw[List.drop_eq_getElem_cons b0,Sch.rdT];rfl
   have a9:=fun w' (hb:Below w.1.size w w')=>ih (a+1) w' (by omega) (by omega) (X.on hb);have bN:((5-f:Nat):Int)=(a4:Int)+1:=(by omega);rw[bN,show((a+1:Nat):Int)=(a:Int)+1 by omega] at a9;have Z:=xX a9;have b7:=l[a].toNat_lt;generalize l[a].toNat=o at *
   clear a7 a9 bN a8 ih X cb;by_cases E:o<1∨7<o
   ·have y:Hid (Sch.rdT (f+1) (l.drop a)=.error 60):=(by show _=_;rw[HD.out,if_pos E]);rw[y.out];clear HD y Z;rcases E with E | E
    ·have a5:(o:Int)<1:=(by omega);clear E;go_enter Tryz.func146,Tryz.ntmps146;go_wp2;refine bodyPost_ret (af rfl _ _ w.1.size _ _ _ _ rfl (ag w _) Tryz.underlying73 rfl (by kernel_rfl)) rfl ?_;exact⟨rfl,J.out _⟩
    ·have a5:¬(o:Int)<1:=(by omega);have bT:(7:Int)<(o:Int):=(by omega);clear E;go_enter Tryz.func146,Tryz.ntmps146;go_wp2;refine bodyPost_ret (af rfl _ _ w.1.size _ _ _ _ rfl (ag w _) Tryz.underlying73 rfl (by kernel_rfl)) rfl ?_;exact⟨rfl,J.out _⟩
   have a5:¬(o:Int)<1:=(by omega);have bT:¬(7:Int)<(o:Int):=(by omega);by_cases aj:o≠6∧o≠7
   ·have y:Hid (Sch.rdT (f+1) (l.drop a)=.ok (⟨(o:Int),[]⟩,1)):=(by show _=_;rw[HD.out,if_neg E,if_pos aj]);have cj:((o:Int) != 6)=true:=bz (by omega);have ck:((o:Int) != 7)=true:=bz (by omega);rw[y.out];clear HD y Z E aj;go_enter Tryz.func146,Tryz.ntmps146;go_wp2;refine bodyPost_ret (af rfl _ _ w.1.size _ _ _ _ rfl (ag w _) Tryz.underlying73 rfl (by kernel_rfl)) rfl ?_;exact⟨_,by rw[show((a+1:Nat):Int)=(a:Int)+1 by omega];rfl,aY.none,J.out _⟩
   obtain⟨z,Y⟩:∃z,z=w.alloc (.cells #[.int .i64 0,.slice none 0 0] 73):=⟨_,rfl⟩;have a2:Hid (Below w.1.size w z):=(by rw[Y];exact J.out _);have bp:Hid (z.1[w.1.size]?=some (.cells (al 0 none 0 0) 73 (0,0))):=(by show _=_;rw[Y];exact ag w _);have cq:z.1.size=w.1.size+1:=(by rw[Y];simp);have bq:=xX Y;obtain⟨R,M⟩:∃R,R=Sch.rdT f (l.drop (a+1)):=⟨_,rfl⟩;have bd:=ip f (l.drop (a+1))
   have U:Hid (Sch.rdT (f+1) (l.drop a)=match Sch.rdT f (l.drop (a+1)) with
     |.error e=>.error e
     |.ok (t,j)=>.ok (⟨(o:Int),[t]⟩,j+1)):=by show _=_;rw[HD.out,if_neg E,if_neg aj]
   have O:=xX (Z.out z a2.out);have b2:o=6∨o=7:=(by omega);clear HD Z E aj Y a5 bT M;cases M:Sch.rdT f (l.drop (a+1)) with
   |error er=>
    rw[M] at O U;have b9:=bd er M;have cn:((er:Int) != 0)=true:=(by rw[bne_iff_ne];omega);have y:Hid (Sch.rdT (f+1) (l.drop a)=.error er):=U.out;rw[y.out];clear U y M bd b9;rcases b2 with rfl | rfl
    all_goals
     go_enter Tryz.func146,Tryz.ntmps146;go_wp2_with fail;rw[<-bq.out];refine O.out.mono ?_;rintro e w2 ⟨rfl,K⟩;obtain⟨w3,D⟩:∃w3,w3=w2.alloc (.cells #[.int .i64 0,.slice none 0 0] 73):=⟨_,rfl⟩;have L:Below z.1.size z w3:=(by rw[D];exact K.alloc K.size _);have A:w3.1[w.1.size]?=some (.cells (al 0 none 0 0) 73 (0,0)):=(L.block _ (by omega)).trans bp.out;have bc:=L.size;have W:=xX (l8 (w:=w) (q:=none) (n:=0) (c:=0) (F:=fun _=>False) (x:=.mk 0 []) A (a2.out.trans (L.mono (by omega))) (by omega) aY.none (fun _ h=>h.elim));have bj:w3.cell? ⟨w.1.size,0,none⟩=some (.int .i64 0):=aa A 0;have bk:w3.cell? ⟨w.1.size,1,none⟩=some (.slice none 0 0):=aa A 1;have bl:=ab A 0;have bn:=ab A 1;have a3:=xX D;rw[D] at bj bk bl bn;clear A L K D bc O;unfold al;go_wp2;rw[<-a3.out];refine bodyPost_ret (af rfl _ _ w.1.size _ _ _ _ rfl W.out.1 Tryz.underlying73 rfl (by kernel_rfl)) rfl ?_;exact⟨rfl,W.out.2.2⟩
   |ok tk=>
    obtain⟨t,j⟩:=tk;rw[M] at O U;have y:Hid (Sch.rdT (f+1) (l.drop a)=.ok (⟨(o:Int),[t]⟩,j+1)):=U.out;rw[y.out];clear U y M bd;have bO:(o:Int)=6∨(o:Int)=7:=(by omega);obtain⟨b4,b3⟩:∃b4:Int,b4=o:=⟨_,rfl⟩;rw[<-b3] at c0 bO ⊢;clear b3 b2 b7;rcases bO with rfl | rfl
    all_goals
     go_enter Tryz.func146,Tryz.ntmps146;go_wp2_with fail;rw[<-bq.out];refine O.out.mono ?_;rintro e w2 ⟨cs,rfl,be,K⟩;obtain⟨ak,a1,a0,ah,rfl⟩:=be.shape;obtain⟨w3,D⟩:∃w3,w3=(w2.alloc (.cells #[.int .i64 ak,.slice a1 a0 ah] 73)).alloc (.cells #[.int .i64 ak,.slice a1 a0 ah] 73):=⟨_,rfl⟩;have a6:Below w2.1.size w2 w3:=(by rw[D];exact xV.alloc (by simp) _);have L:Below z.1.size z w3:=K.trans (a6.mono K.size);have A:w3.1[w.1.size]?=some (.cells (al 0 none 0 0) 73 (0,0)):=(L.block _ (by omega)).trans bp.out;have ci:=K.size;have bc:w3.1.size=w2.1.size+2:=(by rw[D];simp);have bX:w3.1[w2.1.size+1]?=some (.cells (al ak a1 a0 ah) 73 (0,0)):=(by rw[D];exact bG w2 _ _);have b1:aY w3 (fun k=>z.1.size<=k∧k<w2.1.size) (al ak a1 a0 ah) t:=be.under a6 (fun k bb=>bb.2);have W:=xX (fun b5:Int=>l8 (k:=b5) (w:=w) (F:=fun j=>z.1.size<=j∧j<w3.1.size) A (a2.out.trans (L.mono (by omega))) (by omega) (aY.one (k:=b5) (G:=fun j=>z.1.size<=j∧j<w3.1.size) bX b1 (fun k bb=>⟨bb.1,by omega⟩) (fun a7=>by omega) (by omega)) (fun j cc=>⟨by omega,cc.2⟩));have bj:w3.cell? ⟨w.1.size,0,none⟩=some (.int .i64 0):=aa A 0;have bk:w3.cell? ⟨w.1.size,1,none⟩=some (.slice none 0 0):=aa A 1;have bl:=ab A 0;have bn:=ab A 1;have a3:=xX D;rw[D] at bj bk bl bn;clear A L K D bc O a6 ci bX b1 be;unfold al;go_wp2;rw[<-a3.out];refine bodyPost_ret (af rfl _ _ w.1.size _ _ _ _ rfl (W.out _).1 Tryz.underlying73 rfl (by kernel_rfl)) rfl ?_;exact⟨_,by rw[show((a+(j+1):Nat):Int)=(a:Int)+1+(j:Int) by omega];rfl,(W.out _).2.1,(W.out _).2.2⟩
  ·have b6:(l.length:Int)<=(a:Int):=(by omega);have y:Hid (Sch.rdT (f+1) (l.drop a)=.error 30):=(by show _=_;rw[List.drop_eq_nil_of_le (by omega),Sch.rdT]);rw[y.out];clear X ih y a8;go_enter Tryz.func146,Tryz.ntmps146;go_wp2;refine bodyPost_ret (af rfl _ _ w.1.size _ _ _ _ rfl (ag w _) Tryz.underlying73 rfl (by kernel_rfl)) rfl ?_;exact⟨rfl,J.out _⟩
end
section
open Go.RowKit
attribute [local go_sem] am
def xJ(w:World)(a:Nat)(r:Except Nat (Col×Nat))(e:Ending)(w':World):Prop:=match r with
 |.error er=>e=.returned (.tuple #[.agg (av ⟨#[]⟩ 0 none 0 0 false 0 0 0 ⟨#[]⟩ none 0 0),.int .i64 0,.int .i64 (er:Nat)])∧Below w.1.size w w'
 |.ok (c,k)=>∃u,e=.returned (.tuple #[.agg u,.int .i64 ((a+k:Nat):Int),.int .i64 0])∧cG w' (fun k=>w.1.size<=k∧k<w'.1.size) u c∧Below w.1.size w w'
theorem cU(w:World):cG w (fun _=>False) (av ⟨#[]⟩ 0 none 0 0 false 0 0 0 ⟨#[]⟩ none 0 0) ⟨⟨#[]⟩,.mk 0 [],false,V0⟩ :=
 ⟨fun _=>False,fun _=>False,0,none,0,0,0,0,0,⟨#[]⟩,none,0,0,rfl,aY.none,bg.none,fun _ h=>h,fun _ h=>h,fun _ h=>h.elim⟩
def nM(w:World)(g:Nat)(n:ByteArray)(k:Int)(s:Value)(h:Bool)(vk vi:Int)(vb:Nat)(vt:ByteArray)(vs:Value):World :=
 ((((((((w.setCell ⟨g,0,none⟩ (.string n)).setCell ⟨g,1,none⟩ (.int .i64 k)).setCell ⟨g,2,none⟩ s).setCell ⟨g,3,none⟩ (.bool h)).setCell ⟨g,4,none⟩ (.int .i64 vk)).setCell ⟨g,5,none⟩ (.int .i64 vi)).setCell ⟨g,6,none⟩ (.float .f64 vb)).setCell ⟨g,7,none⟩ (.string vt)).setCell ⟨g,8,none⟩ vs
theorem bV{n:ByteArray}{z:OA}{y o:Nat}{h:Bool}{A D:Int}{E:Nat}{I:ByteArray}{L:OA}{K J:Nat}{c:Col}{F:Nat->Prop}(be:w1.1[w.1.size]?=some (.cells (av ⟨#[]⟩ 0 none 0 0 false 0 0 0 ⟨#[]⟩ none 0 0) 79 (0,0)))(hb:Below w.1.size w w1)(bl:w.1.size+1<=w1.1.size)(bk:cG w1 F (av n k z y o h A D E I L K J) c)(O:∀j,F j->w.1.size+1<=j∧j<w1.1.size):
  (nM w1 w.1.size n k (.slice z y o) h A D E I (.slice L K J)).1[w.1.size]?=some (.cells (av n k z y o h A D E I L K J) 79 (0,0))∧cG (nM w1 w.1.size n k (.slice z y o) h A D E I (.slice L K J)) (fun j=>w.1.size<=j∧j<(nM w1 w.1.size n k (.slice z y o) h A D E I (.slice L K J)).1.size) (av n k z y o h A D E I L K J) c∧Below w.1.size w (nM w1 w.1.size n k (.slice z y o) h A D E I (.slice L K J)):=by
 have R:=Aside.refl (fun k=>k=w.1.size) w1;have U:=R.setCell (p:=⟨w.1.size,0,none⟩) (.inl rfl) (.string n);have W:=U.setCell (p:=⟨w.1.size,1,none⟩) (.inl rfl) (.int .i64 k);have X:=W.setCell (p:=⟨w.1.size,2,none⟩) (.inl rfl) (.slice z y o);have Y:=X.setCell (p:=⟨w.1.size,3,none⟩) (.inl rfl) (.bool h);have Z:=Y.setCell (p:=⟨w.1.size,4,none⟩) (.inl rfl) (.int .i64 A);have ah:=Z.setCell (p:=⟨w.1.size,5,none⟩) (.inl rfl) (.int .i64 D);have aj:=ah.setCell (p:=⟨w.1.size,6,none⟩) (.inl rfl) (.float .f64 E);have ak:=aj.setCell (p:=⟨w.1.size,7,none⟩) (.inl rfl) (.string I);have a0:=ak.setCell (p:=⟨w.1.size,8,none⟩) (.inl rfl) (.slice L K J);have M:Aside (fun k=>k=w.1.size) w1 (nM w1 w.1.size n k (.slice z y o) h A D E I (.slice L K J)):=a0;clear R U W X Y Z ah aj ak a0;have a3:w1.1[w.1.size]?=some (.cells (av ⟨#[]⟩ 0 none 0 0 false 0 0 0 ⟨#[]⟩ none 0 0) 79 (0,0)):=be;have a4:(w1.setCell ⟨w.1.size,0,none⟩ (.string n)).1[w.1.size]?=some (.cells (av n 0 none 0 0 false 0 0 0 ⟨#[]⟩ none 0 0) 79 (0,0)):=an a3 0 (.string n);have a5:((w1.setCell ⟨w.1.size,0,none⟩ (.string n)).setCell ⟨w.1.size,1,none⟩ (.int .i64 k)).1[w.1.size]?=some (.cells (av n k none 0 0 false 0 0 0 ⟨#[]⟩ none 0 0) 79 (0,0)):=an a4 1 (.int .i64 k);have a6:(((w1.setCell ⟨w.1.size,0,none⟩ (.string n)).setCell ⟨w.1.size,1,none⟩ (.int .i64 k)).setCell ⟨w.1.size,2,none⟩ (.slice z y o)).1[w.1.size]?=some (.cells (av n k z y o false 0 0 0 ⟨#[]⟩ none 0 0) 79 (0,0)):=an a5 2 (.slice z y o)
 have a7:((((w1.setCell ⟨w.1.size,0,none⟩ (.string n)).setCell ⟨w.1.size,1,none⟩ (.int .i64 k)).setCell ⟨w.1.size,2,none⟩ (.slice z y o)).setCell ⟨w.1.size,3,none⟩ (.bool h)).1[w.1.size]?=some (.cells (av n k z y o h 0 0 0 ⟨#[]⟩ none 0 0) 79 (0,0)):=an a6 3 (.bool h);have a8:(((((w1.setCell ⟨w.1.size,0,none⟩ (.string n)).setCell ⟨w.1.size,1,none⟩ (.int .i64 k)).setCell ⟨w.1.size,2,none⟩ (.slice z y o)).setCell ⟨w.1.size,3,none⟩ (.bool h)).setCell ⟨w.1.size,4,none⟩ (.int .i64 A)).1[w.1.size]?=some (.cells (av n k z y o h A 0 0 ⟨#[]⟩ none 0 0) 79 (0,0)):=an a7 4 (.int .i64 A);have a9:((((((w1.setCell ⟨w.1.size,0,none⟩ (.string n)).setCell ⟨w.1.size,1,none⟩ (.int .i64 k)).setCell ⟨w.1.size,2,none⟩ (.slice z y o)).setCell ⟨w.1.size,3,none⟩ (.bool h)).setCell ⟨w.1.size,4,none⟩ (.int .i64 A)).setCell ⟨w.1.size,5,none⟩ (.int .i64 D)).1[w.1.size]?=some (.cells (av n k z y o h A D 0 ⟨#[]⟩ none 0 0) 79 (0,0)):=an a8 5 (.int .i64 D);have bb:(((((((w1.setCell ⟨w.1.size,0,none⟩ (.string n)).setCell ⟨w.1.size,1,none⟩ (.int .i64 k)).setCell ⟨w.1.size,2,none⟩ (.slice z y o)).setCell ⟨w.1.size,3,none⟩ (.bool h)).setCell ⟨w.1.size,4,none⟩ (.int .i64 A)).setCell ⟨w.1.size,5,none⟩ (.int .i64 D)).setCell ⟨w.1.size,6,none⟩ (.float .f64 E)).1[w.1.size]?=some (.cells (av n k z y o h A D E ⟨#[]⟩ none 0 0) 79 (0,0)):=an a9 6 (.float .f64 E)
 have bc:((((((((w1.setCell ⟨w.1.size,0,none⟩ (.string n)).setCell ⟨w.1.size,1,none⟩ (.int .i64 k)).setCell ⟨w.1.size,2,none⟩ (.slice z y o)).setCell ⟨w.1.size,3,none⟩ (.bool h)).setCell ⟨w.1.size,4,none⟩ (.int .i64 A)).setCell ⟨w.1.size,5,none⟩ (.int .i64 D)).setCell ⟨w.1.size,6,none⟩ (.float .f64 E)).setCell ⟨w.1.size,7,none⟩ (.string I)).1[w.1.size]?=some (.cells (av n k z y o h A D E I none 0 0) 79 (0,0)):=an bb 7 (.string I);have bd:(((((((((w1.setCell ⟨w.1.size,0,none⟩ (.string n)).setCell ⟨w.1.size,1,none⟩ (.int .i64 k)).setCell ⟨w.1.size,2,none⟩ (.slice z y o)).setCell ⟨w.1.size,3,none⟩ (.bool h)).setCell ⟨w.1.size,4,none⟩ (.int .i64 A)).setCell ⟨w.1.size,5,none⟩ (.int .i64 D)).setCell ⟨w.1.size,6,none⟩ (.float .f64 E)).setCell ⟨w.1.size,7,none⟩ (.string I)).setCell ⟨w.1.size,8,none⟩ (.slice L K J)).1[w.1.size]?=some (.cells (av n k z y o h A D E I L K J) 79 (0,0)):=an bc 8 (.slice L K J);refine⟨bd,?_,?_⟩
 ·exact(bk.aside M (fun k a2 bj=>by have:=O k a2;omega)).mono (fun j a1=>⟨by have:=O j a1;omega,by have:=O j a1;have:=M.size;omega⟩)
 ·exact hb.trans (M.below (by omega) (fun k a2 bj=>by omega))
theorem mF(n:ByteArray):∀(s:List Col) (k:Nat),(Sch.find n s k).isSome=s.any (fun x=>decide (x.name=n))
 | [],_=>rfl
 |c::r,k=>by
  rw[Sch.find,List.any_cons];by_cases h:c.name=n
  ·rw[if_pos h,decide_eq_true h];rfl
  ·rw[if_neg h,decide_eq_false h,mF n r (k+1)];rfl
theorem iW(s:List Col)(ps:OA)(e0:Nat)(p:OA)(l:L8)(c:Nat)(ck:l.length<=140737488351232)(e5:l.length<=c)(a:Nat)(w:World)(f7:s.length*120<=140737488351232)(f2:a<=l.length)(fi:bw w ps s)(e3:At w p l):
  Calls Tryz.prog 114 #[.slice ps s.length e0,.slice p l.length c,.int .i64 a] w (xJ w a (Sch.rdC s (l.drop a))):=by
 obtain⟨K,dv⟩:∃K,K=Sch.rdC s (l.drop a):=⟨_,rfl⟩;have b5:Hid (K=Sch.rdC s (l.drop a)):=dv;rw[<-dv];clear dv;obtain⟨y,b8⟩:∃y,y=(w.alloc (.cells #[.string ⟨#[]⟩,.int .i64 0,.slice none 0 0,.bool false,.int .i64 0,.int .i64 0,.float .f64 0,.string ⟨#[]⟩,.slice none 0 0] 79)).alloc (.cells #[.string ⟨#[]⟩,.int .i64 0,.slice none 0 0,.bool false,.int .i64 0,.int .i64 0,.float .f64 0,.string ⟨#[]⟩,.slice none 0 0] 79):=⟨_,rfl⟩;have U:Hid (Below w.1.size w y):=by rw[b8];exact xV.alloc (by simp) _
 have gl:y.1.size=w.1.size+2:=by rw[b8];simp
 have bj:Hid (y.1[w.1.size]?=some (.cells (av ⟨#[]⟩ 0 none 0 0 false 0 0 0 ⟨#[]⟩ none 0 0) 79 (0,0))):=by show _=_;rw[b8];exact aV w _ _
 have bN:Hid (y.1[w.1.size+1]?=some (.cells (av ⟨#[]⟩ 0 none 0 0 false 0 0 0 ⟨#[]⟩ none 0 0) 79 (0,0))):=by show _=_;rw[b8];exact bG w _ _
 have eS:=xX b8;have fx:=xX (fi.on U.out);have cb:=xX (e3.on U.out);have eC:=xX (fH p c l a ck y cb.out);clear b8 fi e3;go_enter Tryz.func114,Tryz.ntmps114;go_wp2_with fail;rw[<-eS.out];refine eC.out.mono ?_;rintro e w1 ⟨rfl,bd⟩;rw[bd];clear bd w1 eC eS;cases hn:Sch.num (l.drop a) with
 |error er=>
  have bk:=dC hn;have e2:((er:Int) != 0)=true:=by rw[bne_iff_ne];omega
  have J:Hid (K=.error er):=by show _=_;rw[b5.out,Sch.rdC,hn]
  simp only[gE];clear hn b5 bk;have o:y.1[w.1.size]?=some (.cells (av ⟨#[]⟩ 0 none 0 0 false 0 0 0 ⟨#[]⟩ none 0 0) 79 (0,0)):=((Below.refl y.1.size y).block _ (by omega)).trans bj.out;have E:y.1[w.1.size+1]?=some (.cells (av ⟨#[]⟩ 0 none 0 0 false 0 0 0 ⟨#[]⟩ none 0 0) 79 (0,0)):=((Below.refl y.1.size y).block _ (by omega)).trans bN.out;obtain⟨W,X,Y,Z,ah,aj,ak,a0,a1⟩:=cQ9 o;have a2:=ab o 0;have a3:=ab o 1;have a4:=ab o 2;have a5:=ab o 3;have a6:=ab o 4;have a7:=ab o 5;have a8:=ab o 6;have a9:=ab o 7;have bb:=ab o 8;obtain⟨bn,bp,bq,bs,n4,n5,n6,n7,n8⟩:=cQ9 E;have D:=xX (bV (w:=w) (F:=fun _=>False) (c:=⟨⟨#[]⟩,.mk 0 [],false,V0⟩) o (U.out.trans ((Below.refl y.1.size y).mono (by omega))) (by have:=(Below.refl y.1.size y).size;omega) (cU _) (fun _ h=>h.elim));clear o E;go_wp2;refine bodyPost_ret (af rfl _ _ w.1.size _ _ _ _ rfl D.out.1 Tryz.underlying79 rfl (by kernel_rfl)) rfl ?_;rw[J.out];exact⟨rfl,D.out.2.2⟩
 |ok nk=>
  obtain⟨n,fo⟩:=nk;simp only[gE];rw[show((a+fo:Nat):Int)=(a:Int)+(fo:Int) by omega];by_cases c7:n=0
  ·have e2:((n:Int)==0)=true:=bQ (by omega);have J:Hid (K=.error 70):=(by show _=_;rw[b5.out,Sch.rdC,hn];dsimp only;rw[if_pos c7]);clear hn b5 c7;have o:y.1[w.1.size]?=some (.cells (av ⟨#[]⟩ 0 none 0 0 false 0 0 0 ⟨#[]⟩ none 0 0) 79 (0,0)):=((Below.refl y.1.size y).block _ (by omega)).trans bj.out;have E:y.1[w.1.size+1]?=some (.cells (av ⟨#[]⟩ 0 none 0 0 false 0 0 0 ⟨#[]⟩ none 0 0) 79 (0,0)):=((Below.refl y.1.size y).block _ (by omega)).trans bN.out;obtain⟨W,X,Y,Z,ah,aj,ak,a0,a1⟩:=cQ9 o;have a2:=ab o 0;have a3:=ab o 1;have a4:=ab o 2;have a5:=ab o 3;have a6:=ab o 4;have a7:=ab o 5;have a8:=ab o 6;have a9:=ab o 7;have bb:=ab o 8;obtain⟨bn,bp,bq,bs,n4,n5,n6,n7,n8⟩:=cQ9 E;have D:=xX (bV (w:=w) (F:=fun _=>False) (c:=⟨⟨#[]⟩,.mk 0 [],false,V0⟩) o (U.out.trans ((Below.refl y.1.size y).mono (by omega))) (by have:=(Below.refl y.1.size y).size;omega) (cU _) (fun _ h=>h.elim));clear o E;go_wp2;refine bodyPost_ret (af rfl _ _ w.1.size _ _ _ _ rfl D.out.1 Tryz.underlying79 rfl (by kernel_rfl)) rfl ?_;rw[J.out];exact⟨rfl,D.out.2.2⟩
  have e2:((n:Int)==0)=false:=aK (by omega)
  have ct:Hid (K=match Sch.text 16 70 (l.drop a) with
    |.error e=>.error e
    |.ok (s_1,j)=>if Sch.name s_1=false then .error 70 else if s.any (fun x=>decide (x.name=s_1)) then .error 71 else match Sch.rdT 4 ((l.drop a).drop j) with
     |.error e=>.error e
     |.ok (t,z)=>match Sch.bit ((l.drop a).drop (j+z)) with
      |.error e=>.error e
      |.ok (h,A)=>if h=0 then .ok (⟨s_1,t,false,V0⟩,j+z+A) else match Sch.rdV t ((l.drop a).drop (j+z+A)) with
       |.error e=>.error e
       |.ok (v,L)=>.ok (⟨s_1,t,true,v⟩,j+z+A+L)):=by
   show _=_;rw[b5.out,Sch.rdC,hn];exact if_neg c7
  have eL:=xX (lT p l c a 16 70 ck e5 f2 (by omega) y cb.out);clear hn b5 c7;go_wp2_with fail;refine eL.out.mono ?_;rintro e w1 ⟨rfl,bd⟩;rw[bd];clear bd w1 eL;cases hnm:Sch.text 16 70 (l.drop a) with
  |error er=>
   have bk:=fE (by decide) hnm;have b7:((er:Int) != 0)=true:=(by rw[bne_iff_ne];omega);have J:Hid (K=.error er):=(by show _=_;rw[ct.out,hnm]);simp only[iJ];clear hnm ct bk;have o:y.1[w.1.size]?=some (.cells (av ⟨#[]⟩ 0 none 0 0 false 0 0 0 ⟨#[]⟩ none 0 0) 79 (0,0)):=((Below.refl y.1.size y).block _ (by omega)).trans bj.out;have E:y.1[w.1.size+1]?=some (.cells (av ⟨#[]⟩ 0 none 0 0 false 0 0 0 ⟨#[]⟩ none 0 0) 79 (0,0)):=((Below.refl y.1.size y).block _ (by omega)).trans bN.out;obtain⟨W,X,Y,Z,ah,aj,ak,a0,a1⟩:=cQ9 o;have a2:=ab o 0;have a3:=ab o 1;have a4:=ab o 2;have a5:=ab o 3;have a6:=ab o 4;have a7:=ab o 5;have a8:=ab o 6;have a9:=ab o 7;have bb:=ab o 8;obtain⟨bn,bp,bq,bs,n4,n5,n6,n7,n8⟩:=cQ9 E;have D:=xX (bV (w:=w) (F:=fun _=>False) (c:=⟨⟨#[]⟩,.mk 0 [],false,V0⟩) o (U.out.trans ((Below.refl y.1.size y).mono (by omega))) (by have:=(Below.refl y.1.size y).size;omega) (cU _) (fun _ h=>h.elim));clear o E;go_wp2;refine bodyPost_ret (af rfl _ _ w.1.size _ _ _ _ rfl D.out.1 Tryz.underlying79 rfl (by kernel_rfl)) rfl ?_;rw[J.out];exact⟨rfl,D.out.2.2⟩
  |ok nj=>
   obtain⟨I,j⟩:=nj;simp only[iJ];have f3:a+j<=l.length:=by
    obtain⟨-,-,gf,r,f0⟩:=Sch.text_ok hnm;have co:=congrArg List.length f0;have gs:I.data.toList.length=I.size:=(by rw[Array.length_toList];rfl);rw[List.length_drop,List.length_append,List.length_append] at co;omega
   have ci:Hid (K=if Sch.name I=false then .error 70 else if s.any (fun x=>decide (x.name=I)) then .error 71 else match Sch.rdT 4 (l.drop (a+j)) with
     |.error e=>.error e
     |.ok (t,z)=>match Sch.bit (l.drop (a+j+z)) with
      |.error e=>.error e
      |.ok (h,A)=>if h=0 then .ok (⟨I,t,false,V0⟩,j+z+A) else match Sch.rdV t (l.drop (a+j+z+A)) with
       |.error e=>.error e
       |.ok (v,L)=>.ok (⟨I,t,true,v⟩,j+z+A+L)):=by
    show _=_;rw[ct.out,hnm];simp only[List.drop_drop,Nat.add_assoc]
   rw[show((a+j:Nat):Int)=(a:Int)+(j:Int) by omega];clear hnm ct;obtain⟨d7,e6⟩:∃d7,d7=Sch.name I:=⟨_,rfl⟩;have df:=xX (lW I y);rw[<-e6] at df ci;clear e6;go_wp2_with fail;refine df.out.mono ?_;rintro e w1 ⟨rfl,bd⟩;rw[bd];clear bd w1 df;cases d7 with
   |false=>
    have J:Hid (K=.error 70):=ci.out;clear ci;have o:y.1[w.1.size]?=some (.cells (av ⟨#[]⟩ 0 none 0 0 false 0 0 0 ⟨#[]⟩ none 0 0) 79 (0,0)):=((Below.refl y.1.size y).block _ (by omega)).trans bj.out;have E:y.1[w.1.size+1]?=some (.cells (av ⟨#[]⟩ 0 none 0 0 false 0 0 0 ⟨#[]⟩ none 0 0) 79 (0,0)):=((Below.refl y.1.size y).block _ (by omega)).trans bN.out;obtain⟨W,X,Y,Z,ah,aj,ak,a0,a1⟩:=cQ9 o;have a2:=ab o 0;have a3:=ab o 1;have a4:=ab o 2;have a5:=ab o 3;have a6:=ab o 4;have a7:=ab o 5;have a8:=ab o 6;have a9:=ab o 7;have bb:=ab o 8;obtain⟨bn,bp,bq,bs,n4,n5,n6,n7,n8⟩:=cQ9 E;have D:=xX (bV (w:=w) (F:=fun _=>False) (c:=⟨⟨#[]⟩,.mk 0 [],false,V0⟩) o (U.out.trans ((Below.refl y.1.size y).mono (by omega))) (by have:=(Below.refl y.1.size y).size;omega) (cU _) (fun _ h=>h.elim));clear o E;go_wp2;refine bodyPost_ret (af rfl _ _ w.1.size _ _ _ _ rfl D.out.1 Tryz.underlying79 rfl (by kernel_rfl)) rfl ?_;rw[J.out];exact⟨rfl,D.out.2.2⟩
   |true=>
    have cv:=xX (ci.out.trans (if_neg (by decide)));have ez:=xX (rO s I ps e0 y f7 fx.out);have b9:=mF I s 0;clear ci;go_wp2_with fail;refine ez.out.mono ?_;rintro e w2 ⟨rfl,d0⟩;have bO:=xX d0;have gm:=d0.size;clear ez d0;cases hfd:Sch.find I s 0 with
    |some kf=>
     rw[hfd] at b9;have J:Hid (K=.error 71):=(by show _=_;rw[cv.out,if_pos (by rw[<-b9];rfl)]);simp only[jd];clear cv hfd b9;have o:w2.1[w.1.size]?=some (.cells (av ⟨#[]⟩ 0 none 0 0 false 0 0 0 ⟨#[]⟩ none 0 0) 79 (0,0)):=(bO.out.block _ (by omega)).trans bj.out;have E:w2.1[w.1.size+1]?=some (.cells (av ⟨#[]⟩ 0 none 0 0 false 0 0 0 ⟨#[]⟩ none 0 0) 79 (0,0)):=(bO.out.block _ (by omega)).trans bN.out;obtain⟨W,X,Y,Z,ah,aj,ak,a0,a1⟩:=cQ9 o;have a2:=ab o 0;have a3:=ab o 1;have a4:=ab o 2;have a5:=ab o 3;have a6:=ab o 4;have a7:=ab o 5;have a8:=ab o 6;have a9:=ab o 7;have bb:=ab o 8;obtain⟨bn,bp,bq,bs,n4,n5,n6,n7,n8⟩:=cQ9 E;have D:=xX (bV (w:=w) (F:=fun _=>False) (c:=⟨⟨#[]⟩,.mk 0 [],false,V0⟩) o (U.out.trans (bO.out.mono (by omega))) (by have:=bO.out.size;omega) (cU _) (fun _ h=>h.elim));clear o E;go_wp2;refine bodyPost_ret (af rfl _ _ w.1.size _ _ _ _ rfl D.out.1 Tryz.underlying79 rfl (by kernel_rfl)) rfl ?_;rw[J.out];exact⟨rfl,D.out.2.2⟩
    |none=>
     rw[hfd] at b9;have cw:=xX (cv.out.trans (if_neg (by rw[<-b9];decide)));simp only[jd];clear cv hfd b9;have b6:=kD p l c ck 4 (a+j) w2 (by omega) f3 (cb.out.on bO.out);rw[show((a+j:Nat):Int)=(a:Int)+(j:Int) by omega] at b6
     replace b6:=xX b6
     go_wp2_with fail;refine b6.out.mono ?_;intro e w3 c8;cases hty:Sch.rdT 4 (l.drop (a+j)) with
     |error er=>
      rw[hty] at c8;obtain⟨rfl,bT⟩:=c8;have bk:=ip 4 _ er hty;have b7:((er:Int) != 0)=true:=(by rw[bne_iff_ne];omega);have J:Hid (K=.error er):=(by show _=_;rw[cw.out,hty]);have cc:=xX (bO.out.trans (bT.mono (by omega)));have f8:=bT.size;unfold al;clear hty bk cw b6 bT;obtain⟨be,bl⟩:∃be,be=w3.alloc (.cells #[.int .i64 0,.slice none 0 0] 73):=⟨_,rfl⟩;have bc:Below y.1.size y be:=(by rw[bl];exact cc.out.alloc cc.out.size _);have ds:=xX bl;have o:be.1[w.1.size]?=some (.cells (av ⟨#[]⟩ 0 none 0 0 false 0 0 0 ⟨#[]⟩ none 0 0) 79 (0,0)):=(bc.block _ (by omega)).trans bj.out;have E:be.1[w.1.size+1]?=some (.cells (av ⟨#[]⟩ 0 none 0 0 false 0 0 0 ⟨#[]⟩ none 0 0) 79 (0,0)):=(bc.block _ (by omega)).trans bN.out;obtain⟨W,X,Y,Z,ah,aj,ak,a0,a1⟩:=cQ9 o;have a2:=ab o 0;have a3:=ab o 1;have a4:=ab o 2;have a5:=ab o 3;have a6:=ab o 4;have a7:=ab o 5;have a8:=ab o 6;have a9:=ab o 7;have bb:=ab o 8;obtain⟨bn,bp,bq,bs,n4,n5,n6,n7,n8⟩:=cQ9 E;have D:=xX (bV (w:=w) (F:=fun _=>False) (c:=⟨⟨#[]⟩,.mk 0 [],false,V0⟩) o (U.out.trans (bc.mono (by omega))) (by have:=bc.size;omega) (cU _) (fun _ h=>h.elim));clear o E;rw[bl] at W X Y Z ah aj ak a0 a1 a2 a3 a4 a5 a6 a7 a8 a9 bb bn bp bq bs n4 n5 n6 n7 n8;clear bl bc;go_wp2;rw[<-ds.out];refine bodyPost_ret (af rfl _ _ w.1.size _ _ _ _ rfl D.out.1 Tryz.underlying79 rfl (by kernel_rfl)) rfl ?_;rw[J.out];exact⟨rfl,D.out.2.2⟩
     |ok tj=>
      obtain⟨M,z⟩:=tj;rw[hty] at c8;obtain⟨gz,rfl,d5,bT⟩:=c8;obtain⟨b0,b3,b2,b1,rfl⟩:=d5.shape;obtain⟨f9,⟨gt,e8⟩,e9,-⟩:=Sch.rdT_ok 4 _ _ _ (by omega) hty;have f4:a+j+z<=l.length:=by
       have co:=congrArg List.length e8;rw[List.length_drop,List.length_append] at co;omega
      have cx:Hid (K=match Sch.bit (l.drop (a+j+z)) with
       |.error e=>.error e
       |.ok (h,A)=>if h=0 then .ok (⟨I,M,false,V0⟩,j+z+A) else match Sch.rdV M (l.drop (a+j+z+A)) with
        |.error e=>.error e
        |.ok (v,L)=>.ok (⟨I,M,true,v⟩,j+z+A+L)):=by show _=_;rw[cw.out,hty]
      have cc:=xX (bO.out.trans (bT.mono (by omega)));have f8:=bT.size;have dp:=xX d5
      -- the type's own block
      obtain⟨w4,cp⟩:∃w4,w4=w3.alloc (.cells #[.int .i64 b0,.slice b3 b2 b1] 73):=⟨_,rfl⟩;have cs:Hid (Below w3.1.size w3 w4):=(by rw[cp];exact xV);have gn:w4.1.size=w3.1.size+1:=(by rw[cp];simp);have R:=xX (cc.out.trans (cs.out.mono cc.out.size));have fs:Hid (w4.cell? ⟨w3.1.size,0,none⟩=some (.int .i64 b0)∧w4.cell? ⟨w3.1.size,1,none⟩=some (.slice b3 b2 b1)):=(by rw[cp];exact⟨by simp,by simp⟩);have eU:=xX cp;have d2:=kF p l c (a+j+z) ck f4 w4 (cb.out.on R.out);have e1:((a+j+z:Nat):Int)=(a:Int)+(j:Int)+(z:Int):=(by omega);rw[e1] at d2;have ew:=xX d2;have fy:((a+j:Nat):Int)+(z:Int)=(a:Int)+(j:Int)+(z:Int):=(by omega);rw[show((a+j+z:Nat):Int)=(a:Int)+(j:Int)+(z:Int) by omega];unfold al;clear hty d5 bT f9 e8 cw b6 cp d2 e1 fy;go_wp2_with fail;rw[<-eU.out];refine ew.out.mono ?_;rintro e w5 ⟨rfl,bd⟩;rw[bd];clear bd w5 ew eU;cases hbt:Sch.bit (l.drop (a+j+z)) with
      |error er=>
       have bk:=eT hbt;have b7:((er:Int) != 0)=true:=(by rw[bne_iff_ne];omega);have J:Hid (K=.error er):=(by show _=_;rw[cx.out,hbt]);simp only[jl];clear hbt bk cx;have o:w4.1[w.1.size]?=some (.cells (av ⟨#[]⟩ 0 none 0 0 false 0 0 0 ⟨#[]⟩ none 0 0) 79 (0,0)):=(R.out.block _ (by omega)).trans bj.out;have E:w4.1[w.1.size+1]?=some (.cells (av ⟨#[]⟩ 0 none 0 0 false 0 0 0 ⟨#[]⟩ none 0 0) 79 (0,0)):=(R.out.block _ (by omega)).trans bN.out;obtain⟨W,X,Y,Z,ah,aj,ak,a0,a1⟩:=cQ9 o;have a2:=ab o 0;have a3:=ab o 1;have a4:=ab o 2;have a5:=ab o 3;have a6:=ab o 4;have a7:=ab o 5;have a8:=ab o 6;have a9:=ab o 7;have bb:=ab o 8;obtain⟨bn,bp,bq,bs,n4,n5,n6,n7,n8⟩:=cQ9 E;have D:=xX (bV (w:=w) (F:=fun _=>False) (c:=⟨⟨#[]⟩,.mk 0 [],false,V0⟩) o (U.out.trans (R.out.mono (by omega))) (by have:=R.out.size;omega) (cU _) (fun _ h=>h.elim));clear o E;go_wp2;refine bodyPost_ret (af rfl _ _ w.1.size _ _ _ _ rfl D.out.1 Tryz.underlying79 rfl (by kernel_rfl)) rfl ?_;rw[J.out];exact⟨rfl,D.out.2.2⟩
      |ok hj=>
       obtain⟨c6,A⟩:=hj;have d3:=Sch.bit_ok hbt;have gh:=d3.1;have f5:a+j+z+A<=l.length:=by
        obtain⟨-,gd,r,f6⟩:=d3;have co:=congrArg List.length f6;rw[List.length_drop,List.length_cons] at co;omega
       have cy:Hid (K=if c6=0 then .ok (⟨I,M,false,V0⟩,j+z+A) else match Sch.rdV M (l.drop (a+j+z+A)) with
        |.error e=>.error e
        |.ok (v,L)=>.ok (⟨I,M,true,v⟩,j+z+A+L)):=by show _=_;rw[cx.out,hbt]
       simp only[jl];rw[show((a+j+z+A:Nat):Int)=(a:Int)+(j:Int)+(z:Int)+(A:Int) by omega];clear hbt d3 cx;obtain⟨d8,d9⟩:=fs.out;have o:w4.1[w.1.size]?=some (.cells (av ⟨#[]⟩ 0 none 0 0 false 0 0 0 ⟨#[]⟩ none 0 0) 79 (0,0)):=(R.out.block _ (by omega)).trans bj.out;by_cases d4:c6=0
       ·have b7:((c6:Int)==0)=true:=bQ (by omega);have J:Hid (K=.ok (⟨I,M,false,V0⟩,j+z+A)):=by show _=_;rw[cy.out,if_pos d4]
        have cn:cG w4 (fun k=>w2.1.size<=k∧k<w3.1.size) (av I b0 b3 b2 b1 false 0 0 0 ⟨#[]⟩ none 0 0) ⟨I,M,false,V0⟩ :=
         ⟨fun k=>w2.1.size<=k∧k<w3.1.size,fun _=>False,b0,b3,b2,b1,0,0,0,⟨#[]⟩,none,0,0,rfl,dp.out.under cs.out (fun k O=>O.2),bg.none,fun _ h=>h,fun _ h=>h.elim,fun _ _ h=>h⟩
        obtain⟨W,X,Y,Z,ah,aj,ak,a0,a1⟩:=cQ9 o;have a2:=ab o 0;have a3:=ab o 1;have a4:=ab o 2;have a5:=ab o 3;have a6:=ab o 4;have a7:=ab o 5;have a8:=ab o 6;have a9:=ab o 7;have bb:=ab o 8;have D:=xX (bV (w:=w) o (U.out.trans (R.out.mono (by omega))) (by omega) cn (fun k O=>⟨by omega,by omega⟩));clear o cn cy d4;go_wp2;refine bodyPost_ret (af rfl _ _ w.1.size _ _ _ _ rfl D.out.1 Tryz.underlying79 rfl (by kernel_rfl)) rfl ?_;rw[J.out];exact⟨_,by rw[show((a+(j+z+A):Nat):Int)=(a:Int)+(j:Int)+(z:Int)+(A:Int) by omega];rfl,D.out.2.1,D.out.2.2⟩
       ·have b7:((c6:Int)==0)=false:=aK (by omega);have dd:=lS p l c ck e5 M 1 (a+j+z+A) w4 (al b0 b3 b2 b1) e9 ((dp.out.lies).on cs.out) f5 (cb.out.on R.out);rw[show((a+j+z+A:Nat):Int)=(a:Int)+(j:Int)+(z:Int)+(A:Int) by omega] at dd;unfold al at dd;have dr:=xX dd;clear dd d4
        have c5:Hid (K=match Sch.rdV M (l.drop (a+j+z+A)) with
         |.error e=>.error e
         |.ok (v,L)=>.ok (⟨I,M,true,v⟩,j+z+A+L)):=by
         show _=_;rw[cy.out];exact if_neg (by intro e4;rw[e4] at b7;simp at b7)
        clear cy o;go_wp2_with fail;refine dr.out.mono ?_;intro e w5 c9;cases hvr:Sch.rdV M (l.drop (a+j+z+A)) with
        |error er=>
         rw[hvr] at c9;obtain⟨rfl,bX⟩:=c9;have bk:=kG M 1 _ er e9 hvr;have gb:((er:Int) != 0)=true:=(by rw[bne_iff_ne];omega);have J:Hid (K=.error er):=(by show _=_;rw[c5.out,hvr]);have eq:=xX (R.out.trans (bX.mono R.out.size));have e7:=bX.size;unfold cells5;clear hvr bk c5 dr bX d8 d9;obtain⟨be,bl⟩:∃be,be=w5.alloc (.cells #[.int .i64 0,.int .i64 0,.float .f64 0,.string ⟨#[]⟩,.slice none 0 0] 77):=⟨_,rfl⟩;have bc:Below y.1.size y be:=(by rw[bl];exact eq.out.alloc eq.out.size _);have ds:=xX bl;have o:be.1[w.1.size]?=some (.cells (av ⟨#[]⟩ 0 none 0 0 false 0 0 0 ⟨#[]⟩ none 0 0) 79 (0,0)):=(bc.block _ (by omega)).trans bj.out;have E:be.1[w.1.size+1]?=some (.cells (av ⟨#[]⟩ 0 none 0 0 false 0 0 0 ⟨#[]⟩ none 0 0) 79 (0,0)):=(bc.block _ (by omega)).trans bN.out;obtain⟨W,X,Y,Z,ah,aj,ak,a0,a1⟩:=cQ9 o;have a2:=ab o 0;have a3:=ab o 1;have a4:=ab o 2;have a5:=ab o 3;have a6:=ab o 4;have a7:=ab o 5;have a8:=ab o 6;have a9:=ab o 7;have bb:=ab o 8;obtain⟨bn,bp,bq,bs,n4,n5,n6,n7,n8⟩:=cQ9 E;have D:=xX (bV (w:=w) (F:=fun _=>False) (c:=⟨⟨#[]⟩,.mk 0 [],false,V0⟩) o (U.out.trans (bc.mono (by omega))) (by have:=bc.size;omega) (cU _) (fun _ h=>h.elim));clear o E;rw[bl] at W X Y Z ah aj ak a0 a1 a2 a3 a4 a5 a6 a7 a8 a9 bb bn bp bq bs n4 n5 n6 n7 n8;clear bl bc;go_wp2;rw[<-ds.out];refine bodyPost_ret (af rfl _ _ w.1.size _ _ _ _ rfl D.out.1 Tryz.underlying79 rfl (by kernel_rfl)) rfl ?_;rw[J.out];exact⟨rfl,D.out.2.2⟩
        |ok vj=>
         obtain⟨fr,L⟩:=vj;rw[hvr] at c9;obtain⟨gL,rfl,d6,bX⟩:=c9;obtain⟨el,ec,ea,ep,en,em,eb,rfl⟩:=d6.shape;have J:Hid (K=.ok (⟨I,M,true,fr⟩,j+z+A+L)):=(by show _=_;rw[c5.out,hvr]);rw[show((a+j+z+A+L:Nat):Int)=(a:Int)+(j:Int)+(z:Int)+(A:Int)+(L:Int) by omega];have e7:=bX.size;obtain⟨b4,cq⟩:∃b4,b4=w5.alloc (.cells #[.int .i64 el,.int .i64 ec,.float .f64 ea,.string ep,.slice en em eb] 77):=⟨_,rfl⟩;have d1:Below w5.1.size w5 b4:=(by rw[cq];exact xV);have cj:Below w4.1.size w4 b4:=bX.trans (d1.mono e7);have gq:b4.1.size=w5.1.size+1:=(by rw[cq];simp);have eu:=xX (R.out.trans (cj.mono R.out.size));have o:b4.1[w.1.size]?=some (.cells (av ⟨#[]⟩ 0 none 0 0 false 0 0 0 ⟨#[]⟩ none 0 0) 79 (0,0)):=(eu.out.block _ (by omega)).trans bj.out
         have cn:cG b4 (fun k=>w2.1.size<=k∧k<w5.1.size) (av I b0 b3 b2 b1 true el ec ea ep en em eb) ⟨I,M,true,fr⟩ :=
          ⟨fun k=>w2.1.size<=k∧k<w3.1.size,fun k=>w4.1.size<=k∧k<w5.1.size,b0,b3,b2,b1,el,ec,ea,ep,en,em,eb,rfl,(dp.out.under cs.out (fun k O=>O.2)).under cj (fun k O=>by omega),d6.under d1 (fun k O=>O.2),fun k O=>⟨O.1,by omega⟩,fun k O=>⟨by omega,O.2⟩,fun k O e4=>by omega⟩
         have u0:=ac cj d8;have u1:=ac cj d9;obtain⟨W,X,Y,Z,ah,aj,ak,a0,a1⟩:=cQ9 o;have a2:=ab o 0;have a3:=ab o 1;have a4:=ab o 2;have a5:=ab o 3;have a6:=ab o 4;have a7:=ab o 5;have a8:=ab o 6;have a9:=ab o 7;have bb:=ab o 8;have D:=xX (bV (w:=w) o (U.out.trans (eu.out.mono (by omega))) (by omega) cn (fun k O=>⟨by omega,by omega⟩));have fv:=xX cq;rw[cq] at u0 u1 W X Y Z ah aj ak a0 a1 a2 a3 a4 a5 a6 a7 a8 a9 bb;unfold cells5;clear o cn c5 hvr d6 bX d1 cj cq dr d8 d9;go_wp2;rw[<-fv.out];refine bodyPost_ret (af rfl _ _ w.1.size _ _ _ _ rfl D.out.1 Tryz.underlying79 rfl (by kernel_rfl)) rfl ?_;rw[J.out];exact⟨_,by rw[show((a+(j+z+A+L):Nat):Int)=(a:Int)+(j:Int)+(z:Int)+(A:Int)+(L:Int) by omega];rfl,D.out.2.1,D.out.2.2⟩
end
section
open Go.RowKit
attribute [local go_sem] am
def wT(w:World)(r:Except Nat (List Col))(e:Ending)(w':World):Prop:=match r with
 |.error er=>e=.returned (.tuple #[.agg #[.slice none 0 0],.int .i64 (er:Nat)])∧Below w.1.size w w'
 |.ok s=>∃u,e=.returned (.tuple #[.agg u,.int .i64 0])∧cS w' w.1.size u s∧Below w.1.size w w'
def shift(n:Nat):Except Nat (List Col×Nat)->Except Nat (List Col×Nat)
 |.error e=>.error e
 |.ok (s,k)=>.ok (s,n+k)
def lL(m:Nat)(s:List Col)(b:L8):Except Nat (Col×Nat)->Except Nat (List Col×Nat)
 |.error e=>.error e
 |.ok (c,j)=>shift j (Sch.rdCs m (s++[c]) (b.drop j))
theorem gD(m:Nat)(s:List Col)(b:L8):Sch.rdCs (m+1) s b=lL m s b (Sch.rdC s b):=by
 rw[Sch.rdCs];cases Sch.rdC s b with
 |error e=>rfl
 |ok p=>
  obtain⟨c,j⟩:=p;rw[lL];dsimp only;cases Sch.rdCs m (s++[c]) (b.drop j) with
  |error e=>rfl
  |ok q=>rfl
theorem gM(n j:Nat)(r:Except Nat (List Col×Nat)):shift n (shift j r)=shift (n+j) r:=by
 cases r with
 |error e=>rfl
 |ok p=>simp[shift,Nat.add_assoc]
theorem um{b:L8}(h:Sch.rdC s b=.error e):e≠0:=by
 rw[Sch.rdC] at h;split at h
 ·next e' he=>injection h with h;rw[<-h];exact dC he
 ·split at h
  ·injection h with h;omega
  ·split at h
   ·next e' he=>injection h with h;rw[<-h];exact fE (by decide) he
   ·split at h
    ·injection h with h;omega
    ·split at h
     ·injection h with h;omega
     ·split at h
      ·next e' he=>injection h with h;rw[<-h];exact ip 4 _ _ he
      ·next t j2 ht=>
       split at h
       ·next e' he=>injection h with h;rw[<-h];exact eT he
       ·split at h
        ·cases h
        ·split at h
         ·next e' he=>
          injection h with h;rw[<-h];exact kG t 1 _ _ (Sch.rdT_ok 4 _ _ _ (by omega) ht).2.2.1 he
         ·cases h
structure gg(w:World)(s:List Col)(v:Value)(wr:World):Prop where
 built:∃us Fs,aT wr (w.1.size+1) v s.length us Fs s
 b0:wr.1[w.1.size]?=some (.cells #[.slice none 0 0] 41 (0,0))
 below:Below w.1.size w wr
 size:w.1.size+1<=wr.1.size
theorem jB(w:World):gg w [] (.slice none 0 0) (w.alloc (.cells #[.slice none 0 0] 41)) :=
 ⟨⟨_,_,fB _ _⟩,ag w _,(Below.refl _ w).alloc xZ _,by simp⟩
theorem gg.next{wr:World}{v:Value}{F:Nat->Prop}{cap:Nat}{us:Nat->AV}{Fs:Nat->Nat->Prop}{A:Col}(h:gg w s v wr)(z:aT wr (w.1.size+1) v s.length us Fs s)(hb:Below wr.1.size wr w2)(R:cG w2 F u A)(D:∀k,F k->wr.1.size<=k∧k<w2.1.size)(o:Below w2.1.size w2 w3)(L:w4.ownsRow (w.1.size+1) 79 9 (.slice (some ⟨g,0,none⟩) (s.length+1) cap) (s.length+1) (flat us s.length++u.toList))(y:w3.grownBy w4 v.ownBlock)(K:v.ownBlock=some g∨g=w3.1.size):
  gg w (s++[A]) (.slice (some ⟨g,0,none⟩) (s.length+1) cap) w4:=by
 have M:=h.size;have U:=hb.size;have W:=o.size;have O:=z.step hb R D o M L y K;have E:Below w.1.size w w4:=((h.below.trans (hb.mono (by omega))).trans (o.mono (by omega))).grown y (by omega) (fun k J=>by have:=(z.lt k J).1;omega);refine⟨⟨(fun n=>if n=s.length then u else us n),(fun n=>if n=s.length then F else Fs n),?_⟩,?_,E,?_⟩
 ·rw[List.length_append,List.length_singleton];exact O
 ·rw[y.block _ (by omega) (fun I=>by have:=(z.lt _ I.symm).1;omega),o.block _ (by omega),hb.block _ (by omega)];exact h.b0
 ·have:=y.size;omega
theorem nF(p:OA)(l:L8)(c:Nat)(cp:l.length<=140737488351232)(d2:l.length<=c)(w:World)(cj:At w p l):
    Calls Tryz.prog 87 #[.slice p l.length c] w (wT w (Sch.read l)):=by
  obtain⟨z,be⟩:∃z,z=Sch.read l:=⟨_,rfl⟩;have L:Hid (z=Sch.read l):=be;rw[<-be];clear be;have U:Hid (∀o,Below w.1.size w (w.alloc o)):=fun o=>xV;have b7:=xX cj;clear cj;by_cases J:1024<l.length
  · have df:(1024:Int)<(l.length:Int):=(by omega);have HE:Hid (z=.error 2):=(by show _=_;rw[L.out,Sch.read,if_pos J]);clear L J;go_enter Tryz.func87,Tryz.ntmps87;go_wp2;refine bodyPost_ret (ap rfl _ _ w.1.size _ _ _ _ rfl (ag w _) Tryz.underlying41 rfl (by kernel_rfl)) rfl ?_;rw[HE.out];exact⟨rfl,U.out _⟩
  have df:¬(1024:Int)<(l.length:Int):=by omega
  have E:=xX (fH p c l 0 cp (w.alloc (.cells #[.slice none 0 0] 41)) (b7.out.on (U.out _)));rw[List.drop_zero] at E;cases hn:Sch.num l with
  |error er=>
    have bk:=dC hn;have cc:((er:Int) != 0)=true:=(by rw[bne_iff_ne];omega);have HE:Hid (z=.error er):=(by show _=_;rw[L.out,Sch.read,if_neg J,hn]);rw[hn] at E;simp only[gE] at E;clear hn L bk J;go_enter Tryz.func87,Tryz.ntmps87;go_wp2_with fail;refine E.out.mono ?_;rintro e w1 ⟨rfl,ak⟩;rw[ak];clear ak w1 E;go_wp2;refine bodyPost_ret (ap rfl _ _ w.1.size _ _ _ _ rfl (ag w _) Tryz.underlying41 rfl (by kernel_rfl)) rfl ?_;rw[HE.out];exact⟨rfl,U.out _⟩
  |ok nk=>
    obtain⟨m,kk⟩:=nk;have bl:=Sch.num_ok hn;have d1:kk<=l.length:=by
      obtain⟨-,r,a8,el⟩:=bl;have:=congrArg List.length a8;rw[List.length_append] at this;omega
    have eu:=bl.1
    have M:Hid (z=if m=0 then .error 4 else if 16<m then .error 3 else match Sch.rdCs m [] (l.drop kk) with
      |.error e=>.error e
      |.ok (l_1,j)=>if kk+j=l.length then .ok l_1 else .error 5):=by show _=_;rw[L.out,Sch.read,if_neg J,hn];rfl
    rw[hn] at E;simp only[gE,Nat.zero_add] at E;clear hn L bl J;go_enter Tryz.func87,Tryz.ntmps87;go_wp2_with fail;refine E.out.mono ?_;rintro e w1 ⟨rfl,ak⟩;rw[ak];clear ak w1 E;by_cases O:m=0
    · have cc:((m:Int)==0)=true:=bQ (by omega);have HE:Hid (z=.error 4):=(by show _=_;rw[M.out,if_pos O]);clear M O;go_wp2;refine bodyPost_ret (ap rfl _ _ w.1.size _ _ _ _ rfl (ag w _) Tryz.underlying41 rfl (by kernel_rfl)) rfl ?_;rw[HE.out];exact⟨rfl,U.out _⟩
    have cc:((m:Int)==0)=false:=aK (by omega);by_cases a5:16<m
    · have dp:(16:Int)<(m:Int):=(by omega);have HE:Hid (z=.error 3):=(by show _=_;rw[M.out,if_neg O,if_pos a5]);clear M O a5;go_wp2;refine bodyPost_ret (ap rfl _ _ w.1.size _ _ _ _ rfl (ag w _) Tryz.underlying41 rfl (by kernel_rfl)) rfl ?_;rw[HE.out];exact⟨rfl,U.out _⟩
    have dp:¬(16:Int)<(m:Int):=(by omega);have eq:m<=16:=by omega
    have Y:Hid (z=match Sch.rdCs m [] (l.drop kk) with
      |.error e=>.error e
      |.ok (l_1,j)=>if kk+j=l.length then .ok l_1 else .error 5):=by show _=_;rw[M.out,if_neg O,if_neg a5]
    clear M O a5;go_wp2_with fail;go_loopw [5,7,8] (fun d7 d8 bT wr=>∃(s:List Col) (n:Nat) (q:OA) (d:Nat),s.length<=m∧d7=.int .i64 ((kk:Int)+(n:Int))∧d8=.slice q s.length d∧bT=.int .i64 s.length∧kk+n<=l.length∧Hid (gg w s (.slice q s.length d) wr∧Sch.rdCs m [] (l.drop kk)=shift n (Sch.rdCs (m-s.length) s (l.drop (kk+n))))) (fun _ _ bT _=>m-(intOf bT).toNat);case atStart=>
      refine⟨[],0,none,0,by simp,by go_num,rfl,rfl,d1,jB w,?_⟩;rw[List.length_nil,Nat.sub_zero,Nat.add_zero];cases Sch.rdCs m [] (l.drop kk) with
      |error e=>rfl
      |ok q=>simp[shift]
    case round=>
      obtain⟨s,n,q,d,ew,rfl,rfl,rfl,d3,X⟩:=hrel;have A:=xX X.out.1;have K:=xX X.out.2;by_cases en:s.length<m
      · have ep:(s.length:Int)<(m:Int):=(by omega);obtain⟨us,Fs,ah⟩:=A.out.built;obtain⟨ez,eb,d0,dv,cn⟩:=ah.cols (by omega);injection d0 with e1 e2 e3;subst e1 e3;have a9:=iW s q d p l c cp d2 (kk+n) wr (by omega) d3 cn (b7.out.on A.out.below);rw[show((kk+n:Nat):Int)=(kk:Int)+(n:Int) by omega] at a9;obtain⟨C,a6⟩:∃C,C=Sch.rdC s (l.drop (kk+n)):=⟨_,rfl⟩;have bc:=xX a6;rw[<-a6] at a9;have bd:=xX a9;have a3:Hid (Sch.rdCs m [] (l.drop kk)=shift n (lL (m-(s.length+1)) s (l.drop (kk+n)) C)):=by
          show _=_;rw[K.out,show m-s.length=(m-(s.length+1))+1 by omega,gD,<-a6]
        have cb:=xX ah;clear a6 X a9 ah cn dv;go_wp2_with fail;refine bd.out.mono ?_;intro e w2 a8;cases C with
        |error er=>
          obtain⟨rfl,I⟩:=a8;have bk:=um bc.out.symm;have ci:((er:Int) != 0)=true:=(by rw[bne_iff_ne];omega);have HE:Hid (z=.error er):=(by show _=_;rw[Y.out,a3.out];rfl);have d6:=A.out.size;have d5:=I.size;obtain⟨w3,bb⟩:∃w3,w3=w2.alloc (.cells #[.string ⟨#[]⟩,.int .i64 0,.slice none 0 0,.bool false,.int .i64 0,.int .i64 0,.float .f64 0,.string ⟨#[]⟩,.slice none 0 0] 79):=⟨_,rfl⟩;have bj:Below wr.1.size wr w3:=(by rw[bb];exact I.alloc I.size _);have D:w3.1[w.1.size]?=some (.cells #[.slice none 0 0] 41 (0,0)):=(bj.block _ (by omega)).trans A.out.b0;have cy:w3.cell? ⟨w.1.size,0,none⟩=some (.slice none 0 0):=aa D 0;have c5:=ab D 0;have W:Hid (Below w.1.size w (w3.setCell ⟨w.1.size,0,none⟩ (.slice none 0 0))):=(A.out.below.trans (bj.mono (by omega))).setCell xZ _;have Z:Hid ((w3.setCell ⟨w.1.size,0,none⟩ (.slice none 0 0)).1[w.1.size]?=some (.cells #[.slice none 0 0] 41 (0,0))):=an D 0 _;have c9:=xX bb;rw[bb] at cy c5;unfold av;clear D bj I bb bd a3 K A Y bk d5;go_wp2;rw[<-c9.out];refine bodyPost_ret (ap rfl _ _ w.1.size _ _ _ _ rfl Z.out Tryz.underlying41 rfl (by kernel_rfl)) rfl ?_;rw[HE.out];exact⟨rfl,W.out⟩
        |ok ck=>
          obtain⟨y,R⟩:=ck;obtain⟨eC,rfl,bp,I⟩:=a8;obtain⟨d9,ea,bq,bO,bN,bs,b3,b2,bX,b6,b5,b4,b1,bn,-⟩:=bp.out;have em:R<=l.length-(kk+n):=by
            obtain⟨J,⟨r,ds⟩,-⟩:=Sch.rdC_ok bc.out.symm;have d4:=congrArg List.length ds;rw[List.length_drop,List.length_append] at d4;omega
          have a4:=xX bp;have b8:=xX I;have d6:w.1.size+1<=w2.1.size:=Nat.le_trans A.out.size I.size;have c8:Hid (Sch.rdCs m [] (l.drop kk)=shift (n+R) (Sch.rdCs (m-(s++[y]).length) (s++[y]) (l.drop (kk+(n+R))))):=by
            show _=_;rw[a3.out,lL,gM,List.length_append,List.length_singleton,List.drop_drop,Nat.add_assoc kk]
          obtain⟨a0,ct⟩:∃a0,a0=y.name:=⟨_,rfl⟩;obtain⟨aj,cv⟩:∃aj,aj=y.has:=⟨_,rfl⟩;rw[<-ct,<-cv] at bn;rw[bn] at a4;subst bn;rw[show((kk+n+R:Nat):Int)=(kk:Int)+(n:Int)+(R:Int) by omega];clear bp I bd a3 K ct cv bc;unfold av at a4 ⊢;have b9:Hid (Below w2.1.size w2 ((w2.alloc (.cells #[.string a0,.int .i64 bq,.slice bO bN bs,.bool aj,.int .i64 b3,.int .i64 b2,.float .f64 bX,.string b6,.slice b5 b4 b1] 79)).alloc (.cells #[.string a0,.int .i64 bq,.slice bO bN bs,.bool aj,.int .i64 b3,.int .i64 b2,.float .f64 bX,.string b6,.slice b5 b4 b1] 79))):=xV.alloc (by simp) _
          go_wp2_with (at_builtin;refine lC (B:=w.1.size+1) (us:=us) ((cb.out.on b8.out).on b9.out).row (u:=#[.string a0,.int .i64 bq,.slice bO bN bs,.bool aj,.int .i64 b3,.int .i64 b2,.float .f64 bX,.string b6,.slice b5 b4 b1]) rfl a4.out.one9 (ad:=w2.1.size+1) (bG w2 _ _) (by omega) (by simp;omega) rfl rfl rfl rfl rfl ?_;intro ci dd w4 cs co cq;have c6:=xX (A.out.next cb.out b8.out a4.out (fun _ h=>h) b9.out cs co cq);clear cs co cq)
          go_roundw;case rel=>exact⟨s++[y],n+R,some ⟨ci,0,none⟩,dd,by simp;omega,by go_num,by simp,by simp,by omega,⟨by simpa using c6.out,c8.out⟩⟩
          case measure=>simp[intOf];omega
      · have ec:¬(s.length:Int)<(m:Int):=(by omega);have cw:s.length=m:=(by omega);have a2:Hid (z=if kk+n=l.length then .ok s else .error 5):=by
          show _=_;rw[Y.out,K.out,cw,Nat.sub_self];simp[Sch.rdCs,shift]
        clear cw;have D:=A.out.b0;have cy:wr.cell? ⟨w.1.size,0,none⟩=some (.slice none 0 0):=aa D 0;have c5:=ab D 0;by_cases a7:kk+n=l.length
        · have dr:((kk:Int)+(n:Int) != (l.length:Int))=false:=cd (by omega);have HE:Hid (z=.ok s):=(by show _=_;rw[a2.out,if_pos a7]);have Z:Hid ((wr.setCell ⟨w.1.size,0,none⟩ (.slice q s.length d)).1[w.1.size]?=some (.cells #[.slice q s.length d] 41 (0,0))):=an D 0 _;have W:Hid (Below w.1.size w (wr.setCell ⟨w.1.size,0,none⟩ (.slice q s.length d))):=A.out.below.setCell xZ _;have c7:Hid (cS (wr.setCell ⟨w.1.size,0,none⟩ (.slice q s.length d)) w.1.size #[.slice q s.length d] s):=by
            obtain⟨us,Fs,ah⟩:=A.out.built;exact⟨_,us,Fs,rfl,(ah.set ⟨w.1.size,0,none⟩ _ (by show w.1.size<_;omega)).low (by omega),by omega⟩
          clear D X K Y a2 a7;go_wp2;refine bodyPost_ret (ap rfl _ _ w.1.size _ _ _ _ rfl Z.out Tryz.underlying41 rfl (by kernel_rfl)) rfl ?_;rw[HE.out];exact⟨_,rfl,c7.out,W.out⟩
        · have dr:((kk:Int)+(n:Int) != (l.length:Int))=true:=bz (by omega);have HE:Hid (z=.error 5):=(by show _=_;rw[a2.out,if_neg a7]);have Z:Hid ((wr.setCell ⟨w.1.size,0,none⟩ (.slice none 0 0)).1[w.1.size]?=some (.cells #[.slice none 0 0] 41 (0,0))):=an D 0 _;have W:Hid (Below w.1.size w (wr.setCell ⟨w.1.size,0,none⟩ (.slice none 0 0))):=A.out.below.setCell xZ _;clear D X K Y a2 a7;go_wp2;refine bodyPost_ret (ap rfl _ _ w.1.size _ _ _ _ rfl Z.out Tryz.underlying41 rfl (by kernel_rfl)) rfl ?_;rw[HE.out];exact⟨rfl,W.out⟩
end
section
open Go.RowKit
theorem kn(us:Nat->AV):∀n,(∀j,j<n->(us j).size=2)->(flat us n).length=n*2
 |0,_=>by simp[flat]
 |n+1,h=>by
  rw[flat,List.length_append,kn us n fun j o=>h j (by omega),Array.length_toList,h n (by omega)];omega
theorem ko(us:Nat->AV):∀n,(∀j,j<n->(us j).size=2)->∀j,j<n->∀m,m<2->(flat us n)[j*2+m]?=(us j)[m]?
 |0,_,j,o,_,_=>by omega
 |n+1,h,j,o,m,hm=>by
  have A:=kn us n fun j o=>h j (by omega);rw[flat];rcases Nat.lt_or_ge j n with y | y
  ·rw[List.getElem?_append_left (by omega),ko us n (fun j o=>h j (by omega)) j y m hm]
  ·have z:j=n:=(by omega);subst z;rw[List.getElem?_append_right (by omega),A,Nat.add_sub_cancel_left];simp
def uU:Value:=.agg (al 0 none 0 0)
theorem wy:(Tryz.prog.info? 73).map (fun i=>(i.zero,i.size,i.bytes))=some (some uU,2,32):=by kernel_rfl
theorem xO{F:Nat->Prop}(h:aY w F u x):∀a∈u.toList,a.oneCell'=true:=by
 obtain⟨k,p,n,c,rfl⟩:=h.shape;intro a o;simp[al] at o;rcases o with rfl | rfl <;> rfl
section
variable {B:Nat} {v:Value} {n:Nat} {us:Nat->AV} {w:World} {u:AV} {ad H:Nat}
theorem mU(ah:w.ownsRow B 73 2 v n (flat us n))(K:u.size=2)(D:∀a∈u.toList,a.oneCell'=true)(R:w.1[ad]?=some (.cells u 73 (0,0)))(Y:(n+1)*32<=140737488355328)(L:B<=w.1.size)(M:w.1.size=H){ops:Array Oper}{o:Oper}{a:Act}{z:Act->World->Prop}{Q:Exit->Act->World->Prop}{A:Prop}(y x:Operand)(W:o.guard=none)(Z:o.op=Op.call { callee:=Callee.builtin Builtin.append,args:=#[y,x],argTypes:=#[71,71] })(aj:a.eval y=v)(a0:a.eval x=.slice (some ⟨ad,0,none⟩) 1 1)(O:∀g cap w',w'.ownsRow B 73 2 (.slice (some ⟨g,0,none⟩) (n+1) cap) (n+1) (flat us n++u.toList)->w.grownBy w' v.ownBlock->(v.ownBlock=some g∨g=H)->z (a.put o.dst (.slice (some ⟨g,0,none⟩) (n+1) cap)) w'):
  if Region.wanted o (yielded ops a.tmps)=true then Oper.wp Tryz.prog o a w z Q else A:=by
 obtain⟨i,X,a1,ak,U⟩:=info_parts wy
 exact step_append_lies w W y x 71 Z B 73 i uU 2 32 Tryz.underlying71 X a1 ak U rfl (by decide) v n (flat us n) aj ah ⟨ad,0,none⟩ 1 1 u.toList a0 (by simp[K])
  (World.news_of_block R) D (by decide) (by unfold maxLen;omega) Y L H M fun g cap w' E I J _=>O g cap w' E I J
end
structure bH(w:World)(B:Nat)(v:Value)(n:Nat)(us:Nat->AV)(Fs:Nat->Nat->Prop)(ys:List Ty):Prop where
 len:ys.length=n
 five:∀j,j<n->(us j).size=2
 row:w.ownsRow B 73 2 v n (flat us n)
 own:∀j (h:j<ys.length),aY w (Fs j) (us j) ys[j]
 apart:∀j m,j<n->m<n->j≠m->∀k,Fs j k->¬Fs m k
 beside:∀g,v.ownBlock=some g->∀j,j<n->¬Fs j g
 range:∀j,j<n->∀k,Fs j k->B<=k∧k<w.1.size
theorem iK(w:World)(B:Nat):bH w B (.slice none 0 0) 0 (fun _=>#[]) (fun _ _=>False) [] :=
 ⟨rfl,fun j o=>by omega,World.ownsRow_nil _ _ _ _,fun j o=>by simp at o,fun j m o=>by omega,fun g y=>by simp[Value.ownBlock] at y,fun j o=>by omega⟩
section
variable {w w':World} {B:Nat} {v:Value} {n:Nat} {us:Nat->AV} {Fs:Nat->Nat->Prop} {ys:List Ty}
theorem bH.aside{G:Nat->Prop}(h:bH w B v n us Fs ys)(y:Aside G w w')(E:∀g,v.ownBlock=some g->¬G g)(I:∀j,j<n->∀k,Fs j k->¬G k):bH w' B v n us Fs ys:=by
 refine⟨h.len,h.five,?_,fun j o=>(h.own j o).aside y (I j (by rw[<-h.len];exact o)),h.apart,h.beside,fun j o k A=>⟨(h.range j o k A).1,Nat.lt_of_lt_of_le (h.range j o k A).2 y.size⟩⟩;refine⟨h.row.1,?_⟩;rcases h.row.2 with J | ⟨g,cap,D,rfl,K,z,L⟩
 ·exact .inl J
 ·exact .inr ⟨g,cap,D,rfl,K,by rw[y.block g (Array.getElem?_eq_some_iff.1 z).1 (E g rfl)];exact z,L⟩
theorem bH.lt(h:bH w B v n us Fs ys):∀g,v.ownBlock=some g->B<=g∧g<w.1.size:=World.ownsRow.lt h.row
theorem bH.on(h:bH w B v n us Fs ys)(hb:Below w.1.size w w'):bH w' B v n us Fs ys :=
 h.aside (ae hb (fun _=>False)) (fun _ _ o=>o) (fun _ _ _ _ o=>o)
theorem bH.set(h:bH w B v n us Fs ys)(p:Addr)(u:Value)(D:p.block<B):bH (w.setCell p u) B v n us Fs ys :=
 h.aside (G:=fun k=>k=p.block) ((Aside.refl (fun k=>k=p.block) w).setCell (p:=p) (.inl rfl) u) (fun g y o=>by have:=(h.lt g y).1;omega) (fun j z k A o=>by have:=(h.range j z k A).1;omega)
theorem bH.step{F:Nat->Prop}{cap:Nat}(h:bH w B v n us Fs ys)(hb:Below w.1.size w w2)(R:aY w2 F u x)(E:∀k,F k->w.1.size<=k∧k<w2.1.size)(K:Below w2.1.size w2 w3)(ak:B<=w.1.size)(X:w4.ownsRow B 73 2 (.slice (some ⟨g,0,none⟩) (n+1) cap) (n+1) (flat us n++u.toList))(I:w3.grownBy w4 v.ownBlock)(A:v.ownBlock=some g∨g=w3.1.size):
  bH w4 B (.slice (some ⟨g,0,none⟩) (n+1) cap) (n+1) (fun j=>if j=n then u else us j) (fun j=>if j=n then F else Fs j) (ys++[x]):=by
 have a2:=hb.size;have a3:=K.size;have J:Aside (fun k=>v.ownBlock=some k) w2 w4:=by
  refine(ae K _).trans (G:=fun k=>v.ownBlock=some k) ⟨I.os,I.tape,I.output,I.size,fun k o U=>I.block k o (fun y=>U y.symm)⟩ (fun _ _ h=>h)
 have M:∀k,F k->¬v.ownBlock=some k:=fun k o y=>by have:=(h.lt k y).2;have:=(E k o).1;omega
 have a1:∀j,j<n+1->j≠n->j<n:=fun j Z ah=>by omega
 refine⟨by rw[List.length_append,h.len];rfl,fun j D=>?_,?_,fun j D=>?_,fun j m D a0 W k o=>?_,fun Y L j D=>?_,fun j D k o=>?_⟩
 ·split
  ·exact R.five
  ·exact h.five j (by omega)
 ·rw[flat,dW _ us n (fun j D=>by simp[show ¬j=n by omega])];simpa using X
 ·rw[List.length_append,h.len,List.length_singleton] at D;by_cases z:j=n
  ·subst z;rw[if_pos rfl,if_pos rfl,List.getElem_append_right (by rw[h.len];exact xZ)];simp only[h.len,Nat.sub_self,List.getElem_singleton];exact R.aside J M
  ·rw[if_neg z,if_neg z,List.getElem_append_left (by rw[h.len];omega)];exact((h.own j (by rw[h.len];omega)).under hb (fun k o=>(h.range j (by omega) k o).2)).aside J (fun k o y=>h.beside k y j (by omega) o)
 ·by_cases z:j=n
  ·rw[if_pos z] at o;rw[if_neg (by omega)];exact fun y=>by have:=(h.range m (by omega) k y).2;have:=(E k o).1;omega
  ·rw[if_neg z] at o;by_cases O:m=n
   ·rw[if_pos O];exact fun y=>by have:=(h.range j (by omega) k o).2;have:=(E k y).1;omega
   ·rw[if_neg O];exact h.apart j m (by omega) (by omega) W k o
 ·simp only[Value.ownBlock,Option.some.injEq] at L;subst L;by_cases z:j=n
  ·rw[if_pos z];intro y;have:=E _ y;rcases A with A | A
   ·exact M _ y A
   ·omega
  ·rw[if_neg z];intro y;rcases A with A | A
   ·exact h.beside _ A j (by omega) y
   ·have:=(h.range j (by omega) _ y).2;omega
 ·have aj:=J.size;by_cases z:j=n
  ·rw[if_pos z] at o;have:=E k o;omega
  ·rw[if_neg z] at o;have:=h.range j (by omega) k o;omega
theorem bH.done(h:bH w B v n us Fs ys)(M:n*32<=140737488351232)(k:Int):∃p c,v=.slice p n c∧aY w (fun k=>B<=k∧k<w.1.size) (al k p n c) (.mk k ys):=by
 rcases h.row.2 with ⟨rfl,z⟩ | ⟨g,cap,W,rfl,E,y,I,X,Y,J⟩
 ·have U:ys=[]:=List.eq_nil_of_length_eq_zero (by rw[h.len];exact z);subst U;subst z;exact⟨none,0,rfl,.none⟩
 ·refine⟨_,cap,rfl,?_⟩;have A:=(Array.getElem?_eq_some_iff.1 y).1;have O:=h.len;have K:∀q,q<n*2->w.cell? ⟨g,q,none⟩=(flat us n)[q]?:=fun q R=>by
   rw[<-J,List.getElem?_take_of_lt R];simp[World.cell?,y]
  subst O;refine .some us Fs M I h.five ⟨A,fun j o m D=>?_⟩ (fun j o m D=>by simp[World.frozen?,y]) ⟨E,A⟩ (fun j o=>h.beside g rfl j o) h.apart (fun j o k L=>h.range j o k L) h.own;rw[Nat.zero_add,K _ (by omega),ko us _ h.five j o m D]
end
structure ge(w:World)(C0:AV)(k:Int)(zs:List Ty)(j:Nat)(v:Value)(wr:World):Prop where
 built:∃us Fs,bH wr (w.1.size+3) v j us Fs (zs.take j)
 b0:wr.1[w.1.size]?=some (.cells C0 73 (0,0))
 b1:wr.1[w.1.size+1]?=some (.cells (al 0 none 0 0) 73 (0,0))
 b2:wr.1[w.1.size+2]?=some (.cells #[.int .i64 k,v] 73 (0,0))
 below:Below w.1.size w wr
 size:w.1.size+3<=wr.1.size
section
variable {w wr:World} {C0:AV} {k:Int} {zs:List Ty} {j:Nat} {v:Value}
theorem ge.slice(h:ge w C0 k zs j v wr):∃p c,v=.slice p j c:=by
 obtain⟨us,Fs,hb⟩:=h.built;rcases hb.row.2 with ⟨o,y⟩ | ⟨g,cap,z,o,_⟩
 ·exact⟨none,0,by rw[o,y]⟩
 ·exact⟨_,cap,o⟩
theorem ge.next{F:Nat->Prop}{cap:Nat}{us:Nat->AV}{Fs:Nat->Nat->Prop}(h:ge w C0 k zs j v wr)(z:bH wr (w.1.size+3) v j us Fs (zs.take j))(J:j<zs.length)(hb:Below wr.1.size wr w2)(R:aY w2 F u zs[j])(E:∀k,F k->wr.1.size<=k∧k<w2.1.size)(o:Below w2.1.size w2 w3)(L:w4.ownsRow (w.1.size+3) 73 2 (.slice (some ⟨g,0,none⟩) (j+1) cap) (j+1) (flat us j++u.toList))(y:w3.grownBy w4 v.ownBlock)(D:v.ownBlock=some g∨g=w3.1.size):
  Below w.1.size w w4∧(∀n,n<3->w4.1[w.1.size+n]?=wr.1[w.1.size+n]?)∧ge w C0 k zs (j+1) (.slice (some ⟨g,0,none⟩) (j+1) cap) (w4.setCell ⟨w.1.size+2,1,none⟩ (.slice (some ⟨g,0,none⟩) (j+1) cap)):=by
 have M:=h.size;have U:=hb.size;have W:=o.size;have O:=z.step hb R E o M L y D;have hold:∀n,n<3->w4.1[w.1.size+n]?=wr.1[w.1.size+n]?:=fun n D=>by
  rw[y.block _ (by omega) (fun I=>by have:=(z.lt _ I.symm).1;omega),o.block _ (by omega),hb.block _ (by omega)]
 have A:Below w.1.size w w4:=((h.below.trans (hb.mono (by omega))).trans (o.mono (by omega))).grown y (by omega) (fun k K=>by have:=(z.lt k K).1;omega);refine⟨A,hold,⟨⟨(fun n=>if n=j then u else us n),(fun n=>if n=j then F else Fs n),?_⟩,?_,?_,?_,?_,?_⟩⟩
 ·rw[List.take_succ_eq_append_getElem J];exact O.set ⟨w.1.size+2,1,none⟩ _ (by show w.1.size+2<_;omega)
 ·have:=hold 0 (by omega);rw[Nat.add_zero] at this;exact cD (this.trans h.b0) _ _ (by show w.1.size≠w.1.size+2;omega)
 ·exact cD ((hold 1 (by omega)).trans h.b1) _ _ (by show w.1.size+1≠w.1.size+2;omega)
 ·rw[an ((hold 2 (by omega)).trans h.b2)];rfl
 ·exact A.setCell (by show w.1.size<=w.1.size+2;omega) _
 ·have:=y.size;simp[World.setCell];omega
end
end
end Go.Proofs.YtdkammppnkhhoaaGreatDoor
