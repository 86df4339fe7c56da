import Derived.Test.YtbahfgdbjgkklaaGreatDoorB06
set_option maxRecDepth 100000
set_option maxHeartbeats 1000000
namespace Go.Proofs.YtbahfgdbjgkklaaGreatDoor
variable{e g:Nat}{l:L8}{k:Int}
section
open Go.RowKit
def gC(a:Nat):Except Nat (Nat×Nat)->Value
 |.error e=>.tuple #[.int .u64 0,.int .i64 0,.int .i64 (e:Nat)]
 |.ok (n,k)=>.tuple #[.int .u64 (n:Nat),.int .i64 ((a+k:Nat):Int),.int .i64 0]
theorem ou(l:L8)(a:Nat):eF l (a:Int)=gC a (Sch.num (l.drop a)):=by
 by_cases z:a<l.length
 ·by_cases h:(Leb.get (l.drop a)).err=0
  ·have e:Leb.get (l.drop a)=⟨0,(Leb.get (l.drop a)).n,(Leb.get (l.drop a)).k⟩:=(by rw[<-h]);rw[gZ l a _ _ e,Sch.num,if_pos h];simp only[gC];rfl
  ·have hb:=Leb.getF_bad 10 true (l.drop a) h;have e:Leb.get (l.drop a)=⟨(Leb.get (l.drop a)).err,0,0⟩:=by
    have o:(Leb.get (l.drop a)).n=0:=hb.1;have y:(Leb.get (l.drop a)).k=0:=hb.2;generalize Leb.get (l.drop a)=g at *
    cases g
    simp_all
   rw[cU l a _ h e,Sch.num,if_neg h];rfl
 ·rw[gY l a (by omega),List.drop_eq_nil_of_le (by omega)];rfl
theorem gQ(p:OA)(c:Nat)(l:L8)(a:Nat)(o:l.length<=140737488351232)(w:World)(h:At w p l):
  Calls Tryz.prog 84 #[.slice p l.length c,.int .i64 a] w fun e w'=>e=.returned (gC a (Sch.num (l.drop a)))∧w'=w:=by
 rw[<-ou];exact jV p c l a o w h
def kC(a:Nat):Except Nat (Nat×Nat)->Value
 |.error e=>.tuple #[.int .i64 0,.int .i64 0,.int .i64 (e:Nat)]
 |.ok (n,k)=>.tuple #[.int .i64 (n:Nat),.int .i64 ((a+k:Nat):Int),.int .i64 0]
theorem mq(p:OA)(l:L8)(c a:Nat)(Q:l.length<=140737488351232)(O:a<=l.length)(w:World)(h:At w p l):Calls Tryz.prog 134 #[.slice p l.length c,.int .i64 a] w fun e w'=>e=.returned (kC a (Sch.bit (l.drop a)))∧w'=w:=by
 by_cases I:a<l.length
 ·obtain⟨b,S,rfl,hb,E⟩:=aC h (by omega);have c0:=E a I;have K:¬(l.length:Int)<=(a:Int):=by omega
  have L:(a:Int)<(l.length:Int):=by omega
  have y:Hid (Sch.bit (l.drop a)=if 1<l[a].toNat then .error 5 else .ok (l[a].toNat,1)):=by
   show _=_;rw[List.drop_eq_getElem_cons I,Sch.bit]
  have M:=l[a].toNat_lt;generalize l[a].toNat=D at *
  clear E h;by_cases z:1<D
  ·have J:(1:Int)<(D:Int):=(by omega);have o:Hid (kC a (Sch.bit (l.drop a))=.tuple #[.int .i64 0,.int .i64 0,.int .i64 5]):=(by show _=_;rw[y.out,if_pos z];rfl);clear y z;go_enter Tryz.func134,Tryz.ntmps134;go_wp2
   go_ret3
   exact⟨by rw[o.out];rfl,rfl⟩
  ·have J:¬(1:Int)<(D:Int):=(by omega);have o:Hid (kC a (Sch.bit (l.drop a))=.tuple #[.int .i64 (D:Nat),.int .i64 ((a:Int)+1),.int .i64 0]):=(by show _=_;rw[y.out,if_neg z];simp[kC]);clear y z;go_enter Tryz.func134,Tryz.ntmps134;go_wp2
   go_ret3
   exact⟨by rw[o.out];rfl,rfl⟩
 ·have K:(l.length:Int)<=(a:Int):=by omega
  have o:Hid (kC a (Sch.bit (l.drop a))=.tuple #[.int .i64 0,.int .i64 0,.int .i64 30]):=by show _=_;rw[List.drop_eq_nil_of_le (by omega)];rfl
  clear h;go_enter Tryz.func134,Tryz.ntmps134;go_wp2
  go_ret3
  exact⟨by rw[o.out];rfl,rfl⟩
def jG(a:Nat):Except Nat (ByteArray×Nat)->Value
 |.error e=>.tuple #[.string ⟨#[]⟩,.int .i64 0,.int .i64 (e:Nat)]
 |.ok (t,k)=>.tuple #[.string t,.int .i64 ((a+k:Nat):Int),.int .i64 0]
theorem nL(p:OA)(l:L8)(c a m g:Nat)(a2:l.length<=140737488351232)(bi:l.length<=c)(a7:a<=l.length)(bj:m<=1024)(w:World)(h:At w p l):Calls Tryz.prog 131 #[.slice p l.length c,.int .i64 a,.int .i64 m,.int .i64 g] w fun e w'=>e=.returned (jG a (Sch.text m g (l.drop a)))∧w'=w:=by
 have z:=gQq (gQ p c l a a2 w h);obtain⟨R,U⟩:∃R,R=Sch.text m g (l.drop a):=⟨_,rfl⟩;have y:=gQq (U.trans (by rw[Sch.text]:Sch.text m g (l.drop a)=_));rw[<-U];clear U;cases hn:Sch.num (l.drop a) with
 |error e=>
  rw[hn] at z y;have D:Hid (R=.error e):=y.out;have a1:e≠0:=by
   intro E;rw[Sch.num] at hn;split at hn
   ·cases hn
   ·next h0=>injection hn with hn;rw[hn] at h0;exact h0 E
  have a6:((e:Int) != 0)=true:=by rw[bne_iff_ne];omega
  clear y hn h a1;simp only[gC] at z;go_enter Tryz.func131,Tryz.ntmps131;go_wp2_with fail;refine z.out.mono ?_;rintro e w1 ⟨rfl,o⟩;rw[o];clear o w1;go_wp2
  go_ret3
  exact⟨by rw[D.out];rfl,rfl⟩
 |ok nk=>
  obtain⟨n,k⟩:=nk;rw[hn] at z y;obtain⟨bn,r,O,K⟩:=Sch.num_ok hn;have be:k<=l.length-a:=by
   have:=congrArg List.length O;rw[List.length_drop,List.length_append,<-K] at this;omega
  simp only[gC] at z;have a0:(l.drop a).length=l.length-a:=List.length_drop;simp only[a0] at y;have bc:1<=k:=by rw[K];exact Leb.put_length_pos n
  obtain⟨b,X,rfl,hb,E⟩:=aC h (by omega);have bk:(m:Int)<=1024:=by omega
  have L:((a+k:Nat):Int)=(a:Int)+(k:Int):=by omega
  rw[L] at z;by_cases I:m<n
  ·have aj:(m:Int)<(n:Int):=(by omega);have D:Hid (R=.error g):=(by show _=_;rw[y.out];exact if_pos I);clear y hn h E I O K L;go_enter Tryz.func131,Tryz.ntmps131;go_wp2_with fail;refine z.out.mono ?_;rintro e w1 ⟨rfl,o⟩;rw[o];clear o w1;go_wp2
   go_ret3
   exact⟨by rw[D.out];rfl,rfl⟩
  have aj:¬(m:Int)<(n:Int):=by omega
  have bp:(n:Int)<=1024:=by omega
  by_cases M:l.length-a-k<n
  ·have ak:(l.length:Int)-((a:Int)+(k:Int))<(n:Int):=(by omega);have D:Hid (R=.error 30):=(by show _=_;rw[y.out];exact(if_neg I).trans (if_pos M));clear y hn h E I M O K L;go_enter Tryz.func131,Tryz.ntmps131;go_wp2_with fail;refine z.out.mono ?_;rintro e w1 ⟨rfl,o⟩;rw[o];clear o w1;go_wp2
   go_ret3
   exact⟨by rw[D.out];rfl,rfl⟩
  have ak:¬(l.length:Int)-((a:Int)+(k:Int))<(n:Int):=by omega
  obtain⟨x,Q⟩:∃x,x=((l.drop a).drop k).take n:=⟨_,rfl⟩;have a5:x.length=n:=by rw[Q,List.length_take,List.length_drop,List.length_drop];omega
  have D:Hid (R=.ok (textOf x,k+n)):=by show _=_;rw[y.out,Q];exact(if_neg I).trans (if_neg M)
  have Z:At w (some ⟨b,X+(a+k),none⟩) x:=by
   refine .inr ⟨b,_,rfl,hb,?_⟩;rw[Q,List.drop_drop];exact cE (cF E (a+k)) n
  have ab:=fun J=>dL Z J;rw[a5] at ab;have ah:c=a+k->∀J,(convert 22 9 (.slice (some ⟨b,X,none⟩) n J)).run Tryz.prog w=.ok (.string (textOf x)) w:=fun a9 J=>by
   have a3:n=0:=(by omega);have a4:x=[]:=List.eq_nil_of_length_eq_zero (by omega);have:=dL (w:=w) (p:=some ⟨b,X,none⟩) (l:=[]) (.inl rfl) J;rw[a3,a4];exact this
  have S:=gQq ah;have Y:Hid (jG a R=.tuple #[.string (textOf x),.int .i64 ((a:Int)+(k:Int)+(n:Int)),.int .i64 0]):=by
   show _=_;rw[D.out];simp only[jG];rw[show((a+(k+n):Nat):Int)=(a:Int)+(k:Int)+(n:Int) by omega]
  clear y hn h E I M O K L Z Q ah D;by_cases W:c=a+k
  ·have bb:=S.out W;clear S ab;subst W;go_enter Tryz.func131,Tryz.ntmps131;go_wp2_with fail;refine z.out.mono ?_;rintro e w1 ⟨rfl,o⟩;rw[o];clear o w1;go_wp2
   go_ret3
   exact⟨by rw[Y.out];rfl,rfl⟩
  ·have a8:¬a+k=c:=fun E=>W E.symm;clear S;go_enter Tryz.func131,Tryz.ntmps131;go_wp2_with fail;refine z.out.mono ?_;rintro e w1 ⟨rfl,o⟩;rw[o];clear o w1;go_wp2
   go_ret3
   exact⟨by rw[Y.out];rfl,rfl⟩
def gE(a:Nat):Except Nat (Nat×Nat)->Value
 |.error e=>.tuple #[.float .f64 0,.int .i64 0,.int .i64 (e:Nat)]
 |.ok (n,k)=>.tuple #[.float .f64 n,.int .i64 ((a+k:Nat):Int),.int .i64 0]
theorem qI(l:L8)(i:Nat)(h:i<l.length):Sch.un (l.drop i)=Sch.un (l.drop (i+1))*256+l[i].toNat:=by
 rw[List.drop_eq_getElem_cons h,Sch.un]
theorem r9(p:OA)(l:L8)(c a:Nat)(bj:l.length<=140737488351232)(bc:a<=l.length)(w:World)(h:At w p l):Calls Tryz.prog 226 #[.slice p l.length c,.int .i64 a] w fun e w'=>e=.returned (gE a (Sch.float (l.drop a)))∧w'=w:=by
 by_cases J:l.length-a<8
 ·have a1:(l.length:Int)-(a:Int)<8:=by omega
  have y:Hid (gE a (Sch.float (l.drop a))=.tuple #[.float .f64 0,.int .i64 0,.int .i64 30]):=by show _=_;rw[Sch.float,if_pos (by rw[List.length_drop];exact J)];rfl
  clear h J;go_enter Tryz.func226,Tryz.ntmps226;go_wp2
  go_ret3
  exact⟨by rw[y.out];rfl,rfl⟩
 have a1:¬(l.length:Int)-(a:Int)<8:=by omega
 obtain⟨b,o,rfl,hb,Y⟩:=aC h (by omega);obtain⟨x,K⟩:∃x,x=(l.drop a).take 8:=⟨_,rfl⟩;have a7:x.length=8:=by rw[K,List.length_take,List.length_drop];omega
 have U:Hid (∀i (O:i<x.length),w.cell? ⟨b,o+(a+i),none⟩=some (.int .u8 (x[i].toNat:Int))):=fun i O=>by
  rw[Y (a+i) (by omega)];simp only[K,List.getElem_take,List.getElem_drop]
 have D:Hid (Sch.float (l.drop a)=if ay (Sch.un x)=Sch.un x then .ok (Sch.un x,8) else .error 5):=by show _=_;rw[Sch.float,if_neg (by rw[List.length_drop];exact J),<-K]
 have a6:Sch.un x<18446744073709551616:=by have:=Sch.un_lt x;rw[a7] at this;simpa using this
 have W:Hid (∀i,i<=8->Sch.un (x.drop i)*256 ^ i<=Sch.un x):=by
  intro i O;induction i with
  |zero=>simp
  |succ i ih=>
   have a2:=ih (by omega);rw[qI x i (by omega),Nat.add_mul] at a2;rw[Nat.pow_succ];have:Sch.un (x.drop (i+1))*(256 ^ i*256)=Sch.un (x.drop (i+1))*256*256 ^ i:=(by rw[Nat.mul_comm (256 ^ i) 256,Nat.mul_assoc]);omega
 clear h Y K J;go_enter Tryz.func226,Tryz.ntmps226;go_wp2_with fail;go_loop [7,8] (fun ak M=>(∃i:Nat,i<=7∧M=.int .i64 i∧ak=.int .u64 (Sch.un (x.drop (i+1)):Nat))∨(M=.int .i64 (-1)∧ak=.int .u64 (Sch.un x:Nat))) (fun _ M=>(intOf M+1).toNat);case atStart=>exact .inl ⟨7,by omega,rfl,by rw[List.drop_eq_nil_of_le (by omega)];rfl⟩
 case round=>
  rcases hrel with ⟨i,O,rfl,rfl⟩ | ⟨rfl,rfl⟩
  ·have a0:=U.out i (by omega);have L:=qI x i (by omega);have Z:=W.out i (by omega);have a5:1<=256 ^ i:=Nat.one_le_pow _ _ (by decide);have a4:Sch.un (x.drop i)<=Sch.un x:=Nat.le_trans (Nat.le_mul_of_pos_right _ (by omega)) Z;have a8:=(x[i]'(by omega)).toNat_lt;obtain⟨S,aj⟩:∃S,S=Sch.un (x.drop (i+1)):=⟨_,rfl⟩;obtain⟨Q,ah⟩:∃Q,Q=(x[i]'(by omega)).toNat:=⟨_,rfl⟩;rw[<-aj] at L ⊢;rw[<-ah] at L a0 a8;have X:=gQq L;have be:S*256+Q<18446744073709551616:=(by omega);have bb:(0:Int)<=(i:Int):=(by omega);have bi:(a:Int)+(i:Int)<(l.length:Int):=(by omega);clear Z a4 a5 L aj ah;go_wp2;go_round;case rel=>
    by_cases a3:i=0
    ·subst a3;right;refine⟨by go_num,?_⟩;have e:=X.out;rw[List.drop_zero] at e;rw[e];go_num
    ·left;refine⟨i-1,by omega,by go_num,?_⟩;rw[show i-1+1=i by omega,X.out];go_num
   case measure=>simp[intOf]
  ·have z:=gQq (rY (Sch.un x:Nat) w);have HBt:=gQq (iX (ay (Sch.un x)) w);rw[Int.toNat_natCast] at z;rw[eT] at HBt;obtain⟨n,ab⟩:∃n,n=Sch.un x:=⟨_,rfl⟩;rw[<-ab] at D z HBt a6 ⊢;clear ab U W;go_wp2_with fail;refine z.out.mono ?_;rintro e w1 ⟨rfl,I⟩;rw[I];clear I w1;go_wp2_with fail;refine HBt.out.mono ?_;rintro e w1 ⟨rfl,I⟩;rw[I];clear I w1;by_cases E:ay n=n
   ·have gf:((ay n:Int) != (n:Int))=false:=bo (by omega);have y:Hid (gE a (Sch.float (l.drop a))=.tuple #[.float .f64 (ay n),.int .i64 ((a:Int)+8),.int .i64 0]):=by
     show _=_;rw[D.out,if_pos E,E];simp[gE]
    clear D E z HBt;go_wp2
    go_ret3
    exact⟨by rw[y.out];rfl,rfl⟩
   ·have gf:((ay n:Int) != (n:Int))=true:=aQ (by omega);have y:Hid (gE a (Sch.float (l.drop a))=.tuple #[.float .f64 0,.int .i64 0,.int .i64 5]):=(by show _=_;rw[D.out,if_neg E];rfl);clear D E z HBt;go_wp2
    go_ret3
    exact⟨by rw[y.out];rfl,rfl⟩
end
section
open Go.RowKit
attribute [local go_sem] af
def kI(w:World)(a:Nat)(r:Except Nat (V×Nat))(e:Ending)(w':World):Prop:=match r with
 |.error er=>e=.returned (.tuple #[.agg (cells5 0 0 0 ⟨#[]⟩ none 0 0),.int .i64 0,.int .i64 (er:Nat)])∧Below w.1.size w w'
 |.ok (v,k)=>∃u,e=.returned (.tuple #[.agg u,.int .i64 ((a+k:Nat):Int),.int .i64 0])∧aO w' (fun k=>w.1.size<=k∧k<w'.1.size) u v∧Below w.1.size w w'
theorem fW(h:Sch.bit l=.error e):e≠0:=by
 cases l with
 |nil=>rw[Sch.bit] at h;injection h with h;omega
 |cons c r=>
  rw[Sch.bit] at h;split at h
  ·injection h with h;omega
  ·cases h
theorem ev(h:Sch.num l=.error e):e≠0:=by
 intro o;rw[Sch.num] at h;split at h
 ·cases h
 ·next h0=>injection h with h;rw[h] at h0;exact h0 o
theorem lN(h:Sch.float l=.error e):e≠0:=by
 rw[Sch.float] at h;split at h
 ·injection h with h;omega
 ·split at h
  ·cases h
  ·injection h with h;omega
theorem gK{m:Nat}(o:g≠0){l:L8}{e:Nat}(h:Sch.text m g l=.error e):e≠0:=by
 rw[Sch.text] at h;split at h
 ·next e' he=>injection h with h;rw[<-h];exact ev he
 ·split at h
  ·injection h with h;omega
  ·split at h
   ·injection h with h;omega
   ·cases h
theorem aV(w:World)(o y:Obj):((w.alloc o).alloc y).1[w.1.size]?=some o:=by rw[aG _ _ (by simp)];exact am w o
theorem rW(p:OA)(l:L8)(c a:Nat)(K:l.length<=140737488351232)(J:a<=l.length)(w:World)(h:At w p l):Calls Tryz.prog 188 #[.int .i64 1,.slice p l.length c,.int .i64 a] w (kI w a (Sch.scalar 1 (l.drop a))):=by
 have o:=gQq (fun w' (hb:Below w.1.size w w')=>mq p l c a K J w' (h.on hb));have z:Hid (∀E I,Below w.1.size w ((w.alloc E).alloc I)):=fun E I=>gQy.alloc (by simp) _;cases hn:Sch.bit (l.drop a) with
 |error er=>
  have D:Hid (Sch.scalar 1 (l.drop a)=.error er):=by show _=_;rw[Sch.scalar,if_pos rfl,hn]
  rw[hn] at o;have L:((er:Int) != 0)=true:=by have:=fW hn;rw[bne_iff_ne];omega
  clear h hn;simp only[kC] at o;rw[D.out];go_enter Tryz.func188,Tryz.ntmps188;go_wp2_with fail;refine(o.out _ (z.out _ _)).mono ?_;rintro e w1 ⟨rfl,y⟩;rw[y];clear y w1;go_wp2;refine bodyPost_ret (ap rfl _ _ w.1.size _ _ _ _ rfl (aV w _ _) Tryz.underlying38 rfl (by kernel_rfl)) rfl ?_;exact⟨rfl,z.out _ _⟩
 |ok nk=>
  obtain⟨n,k⟩:=nk;have D:Hid (Sch.scalar 1 (l.drop a)=.ok (.mk 1 n 0 ⟨#[]⟩ [],k)):=by show _=_;rw[Sch.scalar,if_pos rfl,hn]
  rw[hn] at o;simp only[kC] at o;rw[D.out];clear h hn;go_enter Tryz.func188,Tryz.ntmps188;go_wp2_with fail;refine(o.out _ (z.out _ _)).mono ?_;rintro e w1 ⟨rfl,y⟩;rw[y];clear y w1;go_wp2;refine bodyPost_ret (ap rfl _ _ w.1.size _ _ _ _ rfl (aV w _ _) Tryz.underlying38 rfl (by kernel_rfl)) rfl ?_;exact⟨_,by rw[show((a+k:Nat):Int)=(a:Int)+(k:Int) by omega];rfl,.none,z.out _ _⟩
theorem rV(p:OA)(l:L8)(c a:Nat)(K:l.length<=140737488351232)(_:a<=l.length)(w:World)(h:At w p l):Calls Tryz.prog 188 #[.int .i64 2,.slice p l.length c,.int .i64 a] w (kI w a (Sch.scalar 2 (l.drop a))):=by
 have y:=gQq (fun w' (hb:Below w.1.size w w')=>gQ p c l a K w' (h.on hb));have z:Hid (∀E I,Below w.1.size w ((w.alloc E).alloc I)):=fun E I=>gQy.alloc (by simp) _;cases hn:Sch.num (l.drop a) with
 |error er=>
  have D:Hid (Sch.scalar 2 (l.drop a)=.error er):=by show _=_;rw[Sch.scalar,if_neg (by decide),if_pos rfl,hn]
  rw[hn] at y;have M:((er:Int) != 0)=true:=by have:=ev hn;rw[bne_iff_ne];omega
  clear h hn;simp only[gC] at y;rw[D.out];go_enter Tryz.func188,Tryz.ntmps188;go_wp2_with fail;refine(y.out _ (z.out _ _)).mono ?_;rintro e w1 ⟨rfl,o⟩;rw[o];clear o w1;go_wp2_with fail;refine(jR 0 (by decide) _).mono ?_;rintro e w1 ⟨rfl,o⟩;rw[o];clear o w1;go_wp2;refine bodyPost_ret (ap rfl _ _ w.1.size _ _ _ _ rfl (aV w _ _) Tryz.underlying38 rfl (by kernel_rfl)) rfl ?_;exact⟨rfl,z.out _ _⟩
 |ok nk=>
  obtain⟨n,k⟩:=nk;have D:Hid (Sch.scalar 2 (l.drop a)=.ok (.mk 2 (Leb.zag n) 0 ⟨#[]⟩ [],k)):=by show _=_;rw[Sch.scalar,if_neg (by decide),if_pos rfl,hn]
  rw[hn] at y;simp only[gC] at y;have L:=(Sch.num_ok hn).1;have J:=gQq (jR n L);rw[D.out];clear h hn;go_enter Tryz.func188,Tryz.ntmps188;go_wp2_with fail;refine(y.out _ (z.out _ _)).mono ?_;rintro e w1 ⟨rfl,o⟩;rw[o];clear o w1;go_wp2_with fail;refine(J.out _).mono ?_;rintro e w1 ⟨rfl,o⟩;rw[o];clear o w1;go_wp2;refine bodyPost_ret (ap rfl _ _ w.1.size _ _ _ _ rfl (aV w _ _) Tryz.underlying38 rfl (by kernel_rfl)) rfl ?_;exact⟨_,by rw[show((a+k:Nat):Int)=(a:Int)+(k:Int) by omega];rfl,.none,z.out _ _⟩
theorem rU(p:OA)(l:L8)(c a:Nat)(K:l.length<=140737488351232)(J:a<=l.length)(w:World)(h:At w p l):Calls Tryz.prog 188 #[.int .i64 3,.slice p l.length c,.int .i64 a] w (kI w a (Sch.scalar 3 (l.drop a))):=by
 have o:=gQq (fun w' (hb:Below w.1.size w w')=>r9 p l c a K J w' (h.on hb));have z:Hid (∀E I,Below w.1.size w ((w.alloc E).alloc I)):=fun E I=>gQy.alloc (by simp) _;cases hn:Sch.float (l.drop a) with
 |error er=>
  have D:Hid (Sch.scalar 3 (l.drop a)=.error er):=by show _=_;rw[Sch.scalar,if_neg (by decide),if_neg (by decide),if_pos rfl,hn]
  rw[hn] at o;have L:((er:Int) != 0)=true:=by have:=lN hn;rw[bne_iff_ne];omega
  clear h hn;simp only[gE] at o;rw[D.out];go_enter Tryz.func188,Tryz.ntmps188;go_wp2_with fail;refine(o.out _ (z.out _ _)).mono ?_;rintro e w1 ⟨rfl,y⟩;rw[y];clear y w1;go_wp2;refine bodyPost_ret (ap rfl _ _ w.1.size _ _ _ _ rfl (aV w _ _) Tryz.underlying38 rfl (by kernel_rfl)) rfl ?_;exact⟨rfl,z.out _ _⟩
 |ok nk=>
  obtain⟨n,k⟩:=nk;have D:Hid (Sch.scalar 3 (l.drop a)=.ok (.mk 3 0 n ⟨#[]⟩ [],k)):=by show _=_;rw[Sch.scalar,if_neg (by decide),if_neg (by decide),if_pos rfl,hn]
  rw[hn] at o;simp only[gE] at o;rw[D.out];clear h hn;go_enter Tryz.func188,Tryz.ntmps188;go_wp2_with fail;refine(o.out _ (z.out _ _)).mono ?_;rintro e w1 ⟨rfl,y⟩;rw[y];clear y w1;go_wp2;refine bodyPost_ret (ap rfl _ _ w.1.size _ _ _ _ rfl (aV w _ _) Tryz.underlying38 rfl (by kernel_rfl)) rfl ?_;exact⟨_,by rw[show((a+k:Nat):Int)=(a:Int)+(k:Int) by omega];rfl,.none,z.out _ _⟩
theorem pG(y:Int)(S:y=4∨y=5)(p:OA)(l:L8)(c a:Nat)(Z:l.length<=140737488351232)(ab:l.length<=c)(X:a<=l.length)(w:World)(h:At w p l):Calls Tryz.prog 188 #[.int .i64 y,.slice p l.length c,.int .i64 a] w (kI w a (Sch.scalar y (l.drop a))):=by
 have D:=gQq (fun w' (hb:Below w.1.size w w')=>nL p l c a 1024 2 Z ab X (by omega) w' (h.on hb));have z:Hid (∀U W,Below w.1.size w ((w.alloc U).alloc W)):=fun U W=>gQy.alloc (by simp) _
 have I:Sch.scalar y (l.drop a)=match Sch.text 1024 2 (l.drop a) with
   |.error e=>.error e
   |.ok (t,j)=>if y=4∧dM t=false then .error 61 else .ok (.mk y 0 0 t [],j):=by
  rw[Sch.scalar,if_neg (by omega),if_neg (by omega),if_neg (by omega)];rfl
 cases hn:Sch.text 1024 2 (l.drop a) with
 |error er=>
  have K:Hid (Sch.scalar y (l.drop a)=.error er):=by show _=_;rw[I,hn]
  rw[hn] at D;have aj:((er:Int) != 0)=true:=by have:=gK (by decide) hn;rw[bne_iff_ne];omega
  have E:=gQq (qL ⟨#[]⟩ (Nat.zero_le _));have Q:U8.utf (⟨#[]⟩:ByteArray).data.toList=true:=rfl;rw[Q] at E;clear h hn I Q;simp only[jG] at D;rw[K.out];rcases S with rfl | rfl
  all_goals
   go_enter Tryz.func188,Tryz.ntmps188;go_wp2_with fail;refine(D.out _ (z.out _ _)).mono ?_;rintro e w1 ⟨rfl,o⟩;rw[o];clear o w1;go_wp2_with fail;refine(E.out _).mono ?_;rintro e w1 ⟨rfl,o⟩;rw[o];clear o w1;go_wp2;refine bodyPost_ret (ap rfl _ _ w.1.size _ _ _ _ rfl (aV w _ _) Tryz.underlying38 rfl (by kernel_rfl)) rfl ?_;exact⟨rfl,z.out _ _⟩
 |ok tk=>
  obtain⟨t,k⟩:=tk;have M:Sch.scalar y (l.drop a)=if y=4∧dM t=false then .error 61 else .ok (.mk y 0 0 t [],k):=by rw[I,hn]
  have ah:=(Sch.text_ok hn).1;rw[hn] at D;simp only[jG] at D;have E:=gQq (qL t (by omega));obtain⟨J,L⟩:∃J,J=dM t:=⟨_,rfl⟩;have O:U8.utf t.data.toList=J:=L.symm;rw[O] at E;rw[<-L] at M;have K:=gQq M;rw[K.out];clear h hn I M O L ah;rcases S with rfl | rfl
  ·cases J with
   |false=>
    rw[if_pos ⟨rfl,rfl⟩];go_enter Tryz.func188,Tryz.ntmps188;go_wp2_with fail;refine(D.out _ (z.out _ _)).mono ?_;rintro e w1 ⟨rfl,o⟩;rw[o];clear o w1;go_wp2_with fail;refine(E.out _).mono ?_;rintro e w1 ⟨rfl,o⟩;rw[o];clear o w1;go_wp2;refine bodyPost_ret (ap rfl _ _ w.1.size _ _ _ _ rfl (aV w _ _) Tryz.underlying38 rfl (by kernel_rfl)) rfl ?_;exact⟨rfl,z.out _ _⟩
   |true=>
    rw[if_neg (by decide)];go_enter Tryz.func188,Tryz.ntmps188;go_wp2_with fail;refine(D.out _ (z.out _ _)).mono ?_;rintro e w1 ⟨rfl,o⟩;rw[o];clear o w1;go_wp2_with fail;refine(E.out _).mono ?_;rintro e w1 ⟨rfl,o⟩;rw[o];clear o w1;go_wp2;refine bodyPost_ret (ap rfl _ _ w.1.size _ _ _ _ rfl (aV w _ _) Tryz.underlying38 rfl (by kernel_rfl)) rfl ?_;exact⟨_,by rw[show((a+k:Nat):Int)=(a:Int)+(k:Int) by omega];rfl,.none,z.out _ _⟩
  ·rw[if_neg (fun Y=>absurd Y.1 (by decide))];go_enter Tryz.func188,Tryz.ntmps188;go_wp2_with fail;refine(D.out _ (z.out _ _)).mono ?_;rintro e w1 ⟨rfl,o⟩;rw[o];clear o w1;go_wp2_with fail;refine(E.out _).mono ?_;rintro e w1 ⟨rfl,o⟩;rw[o];clear o w1;go_wp2;refine bodyPost_ret (ap rfl _ _ w.1.size _ _ _ _ rfl (aV w _ _) Tryz.underlying38 rfl (by kernel_rfl)) rfl ?_;exact⟨_,by rw[show((a+k:Nat):Int)=(a:Int)+(k:Int) by omega];rfl,.none,z.out _ _⟩
theorem pF(o:Int)(E:1<=o∧o<=5)(p:OA)(l:L8)(c a:Nat)(z:l.length<=140737488351232)(D:l.length<=c)(y:a<=l.length)(w:World)(h:At w p l):Calls Tryz.prog 188 #[.int .i64 o,.slice p l.length c,.int .i64 a] w (kI w a (Sch.scalar o (l.drop a))):=by
 rcases(show o=1∨o=2∨o=3∨(o=4∨o=5) by omega) with rfl | rfl | rfl | hk45
 ·exact rW p l c a z y w h
 ·exact rV p l c a z y w h
 ·exact rU p l c a z y w h
 ·exact pG o hk45 p l c a z D y w h
end
section
open Go.RowKit
attribute [local go_sem] af
theorem uH(h:Sch.many k l=.error e):e≠0:=by
 rw[Sch.many] at h;split at h
 ·exact fW h
 ·split at h
  ·next e' he=>injection h with h;rw[<-h];exact ev he
  ·split at h
   ·injection h with h;omega
   ·cases h
theorem pB(h:Sch.scalar k l=.error e):e≠0:=by
 rw[Sch.scalar] at h;split at h
 ·split at h
  ·next e' he=>injection h with h;rw[<-h];exact fW he
  ·cases h
 split at h
 ·split at h
  ·next e' he=>injection h with h;rw[<-h];exact ev he
  ·cases h
 split at h
 ·split at h
  ·next e' he=>injection h with h;rw[<-h];exact lN he
  ·cases h
 split at h
 ·next e' he=>injection h with h;rw[<-h];exact gK (by decide) he
 ·split at h
  ·injection h with h;omega
  ·cases h
theorem qN{f:L8->Except Nat (V×Nat)}(o:∀l e,f l=.error e->e≠0):∀(m:Nat) (l:L8) (e:Nat),Sch.rdN f m l=.error e->e≠0
 |0,l,e,h=>by rw[Sch.rdN] at h;cases h
 |m+1,l,e,h=>by
  rw[Sch.rdN] at h;split at h
  ·next e' he=>injection h with h;rw[<-h];exact o l e' he
  ·next v j hv=>
   split at h
   ·next e' he=>injection h with h;rw[<-h];exact qN o m _ _ he
   ·cases h
theorem mr:∀(t:Ty) (d:Nat) (l:L8) (e:Nat),Ty.check d t=0->Sch.rdV t l=.error e->e≠0:=by
 intro t;refine Ty.ind (P:=fun t=>∀(d:Nat) (l:L8) (e:Nat),Ty.check d t=0->Sch.rdV t l=.error e->e≠0) ?_ t;intro k xs I d l e z h;obtain⟨hd,J,D⟩:=Sch.ty_open z;rw[Sch.rdV_mk] at h;rcases D with ⟨y,rfl⟩ | ⟨y,x,rfl,E⟩
 ·rw[if_pos (by omega)] at h;exact pB h
 ·rw[if_neg (by omega)] at h;split at h
  ·next e' o=>injection h with h;rw[<-h];exact uH o
  ·split at h
   ·next e' o=>
    injection h with h;rw[<-h];exact qN (fun l e o=>I x (by simp) (d+1) l e E o) _ _ _ o
   ·cases h
def glue(ys:List V)(n:Nat):Except Nat (List V×Nat)->Except Nat (List V×Nat)
 |.error e=>.error e
 |.ok (vs,k)=>.ok (ys++vs,n+k)
theorem eS(ys:List V)(n:Nat)(v:V)(j:Nat)(r:Except Nat (List V×Nat)):glue ys n (glue [v] j r)=glue (ys++[v]) (n+j) r:=by
 cases r with
 |error e=>rfl
 |ok p=>simp[glue,Nat.add_assoc]
def iT(f:L8->Except Nat (V×Nat))(m:Nat)(l:L8):Except Nat (V×Nat)->Except Nat (List V×Nat)
 |.error e=>.error e
 |.ok (v,j)=>glue [v] j (Sch.rdN f m (l.drop j))
theorem eJ(f:L8->Except Nat (V×Nat))(m:Nat)(l:L8):Sch.rdN f (m+1) l=iT f m l (f l):=by
 rw[Sch.rdN];cases f l with
 |error e=>rfl
 |ok p=>
  obtain⟨v,j⟩:=p;rw[iT];dsimp only;cases Sch.rdN f m (l.drop j) with
  |error e=>rfl
  |ok q=>rfl
theorem bK(w:World)(y o:Obj):((w.alloc y).alloc o).1[w.1.size+1]?=some o:=by
 have:=am (w.alloc y) o;simpa using this
theorem eK{w o w1:World}{i:Int}{b:Nat}{t:ByteArray}{q:OA}{n c:Nat}{v:V}{F:Nat->Prop}(I:w1.1[w.1.size+1]?=some (.cells (cells5 0 0 0 ⟨#[]⟩ none 0 0) 38 (0,0)))(J:Below w.1.size w o)(M:w.1.size+2<=o.1.size)(hb:Below w.1.size o w1)(O:o.1.size<=w1.1.size)(L:aO w1 F (cells5 k i b t q n c) v)(z:∀j,F j->w.1.size+2<=j∧j<w1.1.size):
  (pO w1 (w.1.size+1) k i b t (.slice q n c)).1[w.1.size+1]?=some (.cells (cells5 k i b t q n c) 38 (0,0))∧aO (pO w1 (w.1.size+1) k i b t (.slice q n c)) (fun j=>w.1.size<=j∧j<(pO w1 (w.1.size+1) k i b t (.slice q n c)).1.size) (cells5 k i b t q n c) v∧Below w.1.size w (pO w1 (w.1.size+1) k i b t (.slice q n c)):=by
 have y:Aside (fun k=>k=w.1.size+1) w1 (pO w1 (w.1.size+1) k i b t (.slice q n c)):=by
  unfold pO;exact(((((Aside.refl (fun k=>k=w.1.size+1) w1).setCell (p:=⟨w.1.size+1,0,none⟩) (.inl rfl) _).setCell (p:=⟨w.1.size+1,1,none⟩) (.inl rfl) _).setCell (p:=⟨w.1.size+1,2,none⟩) (.inl rfl) _).setCell (p:=⟨w.1.size+1,3,none⟩) (.inl rfl) _).setCell (p:=⟨w.1.size+1,4,none⟩) (.inl rfl) _
 refine⟨?_,?_,?_⟩
 ·unfold pO;rw[ai (ai (ai (ai (ai I 0 _) 1 _) 2 _) 3 _) 4 _];rfl
 ·exact(L.aside y (fun k E K=>by have:=z k E;omega)).mono (fun j D=>⟨by have:=z j D;omega,by have:=z j D;have:=y.size;omega⟩)
 ·exact(J.trans hb).trans (y.below (by omega) (fun k E K=>by omega))
structure eA(w:World)(C0:AV)(k:Int)(ys:List V)(v:Value)(wr:World):Prop where
 built:∃us Fs,aZ wr (w.1.size+3) v ys.length us Fs ys
 b0:wr.1[w.1.size]?=some (.cells C0 34 (0,0))
 b1:wr.1[w.1.size+1]?=some (.cells (cells5 0 0 0 ⟨#[]⟩ none 0 0) 38 (0,0))
 b2:wr.1[w.1.size+2]?=some (.cells #[.int .i64 k,.int .i64 0,.float .f64 0,.string ⟨#[]⟩,v] 38 (0,0))
 below:Below w.1.size w wr
 size:w.1.size+3<=wr.1.size
section
variable {w wr:World} {C0:AV} {k:Int} {ys:List V} {v:Value}
theorem ga(w:World)(C0:AV)(k:Int):
  eA w C0 k [] (.slice none 0 0) (((w.alloc (.cells C0 34)).alloc (.cells (cells5 0 0 0 ⟨#[]⟩ none 0 0) 38)).alloc (.cells #[.int .i64 k,.int .i64 0,.float .f64 0,.string ⟨#[]⟩,.slice none 0 0] 38)):=by
 refine⟨⟨_,_,fV _ _⟩,?_,?_,?_,((((Below.refl _ w).alloc gQx _).alloc (by simp) _).alloc (by simp;omega) _),by simp⟩
 ·rw[aG _ _ (by simp;omega),aG _ _ (by simp)];exact am w _
 ·rw[aG _ _ (by simp)];have:=am (w.alloc (.cells C0 34)) (.cells (cells5 0 0 0 ⟨#[]⟩ none 0 0) 38);simpa using this
 ·have:=am ((w.alloc (.cells C0 34)).alloc (.cells (cells5 0 0 0 ⟨#[]⟩ none 0 0) 38)) (.cells #[.int .i64 k,.int .i64 0,.float .f64 0,.string ⟨#[]⟩,.slice none 0 0] 38);simpa using this
theorem eA.slice(h:eA w C0 k ys v wr):∃p c,v=.slice p ys.length c:=by
 obtain⟨us,z,hb⟩:=h.built;rcases hb.row.2 with ⟨o,y⟩ | ⟨g,cap,D,o,_⟩
 ·exact⟨none,0,by rw[o,y]⟩
 ·exact⟨_,cap,o⟩
theorem eA.next{o E w4:World}{u:AV}{F:Nat->Prop}{cap:Nat}{us:Nat->AV}{I:Nat->Nat->Prop}{K:V}(h:eA w C0 k ys v wr)(D:aZ wr (w.1.size+3) v ys.length us I ys)(hb:Below wr.1.size wr o)(X:aO o F u K)(L:∀k,F k->wr.1.size<=k∧k<o.1.size)(y:Below o.1.size o E)(S:w4.ownsRow (w.1.size+3) 38 5 (.slice (some ⟨g,0,none⟩) (ys.length+1) cap) (ys.length+1) (flat us ys.length++u.toList))(z:E.grownBy w4 v.ownBlock)(J:v.ownBlock=some g∨g=E.1.size):
  (∀n,n<3->w4.1[w.1.size+n]?=wr.1[w.1.size+n]?)∧eA w C0 k (ys++[K]) (.slice (some ⟨g,0,none⟩) (ys.length+1) cap) (w4.setCell ⟨w.1.size+2,4,none⟩ (.slice (some ⟨g,0,none⟩) (ys.length+1) cap)):=by
 have U:=h.size;have Y:=hb.size;have Z:=y.size;have W:=D.step hb X L y U S z J;have hold:∀n,n<3->w4.1[w.1.size+n]?=wr.1[w.1.size+n]?:=fun n J=>by
  rw[z.block _ (by omega) (fun O=>by have:=(D.lt _ O.symm).1;omega),y.block _ (by omega),hb.block _ (by omega)]
 have M:Below w.1.size w w4:=((h.below.trans (hb.mono (by omega))).trans (y.mono (by omega))).grown z (by omega) (fun k Q=>by have:=(D.lt k Q).1;omega);refine⟨hold,⟨⟨(fun n=>if n=ys.length then u else us n),(fun n=>if n=ys.length then F else I n),?_⟩,?_,?_,?_,?_,?_⟩⟩
 ·rw[List.length_append,List.length_singleton];exact W.set ⟨w.1.size+2,4,none⟩ _ (by show w.1.size+2<_;omega)
 ·have:=hold 0 (by omega);rw[Nat.add_zero] at this;exact ax (this.trans h.b0) _ _ (by show w.1.size≠w.1.size+2;omega)
 ·exact ax ((hold 1 (by omega)).trans h.b1) _ _ (by show w.1.size+1≠w.1.size+2;omega)
 ·rw[ai ((hold 2 (by omega)).trans h.b2)];rfl
 ·exact M.setCell (by show w.1.size<=w.1.size+2;omega) _
 ·have:=z.size;simp[World.setCell];omega
end
theorem nK(p:OA)(l:L8)(c:Nat)(ds:l.length<=140737488351232)(e0:l.length<=c):∀(x:Ty) (d:Nat) (a:Nat) (w:World) (u:AV),Ty.check d x=0->aH w u x->a<=l.length->At w p l->Calls Tryz.prog 122 #[.agg u,.slice p l.length c,.int .i64 a] w (kI w a (Sch.rdV x (l.drop a))):=by
  intro x;refine Ty.ind (P:=fun x=>∀(d:Nat) (a:Nat) (w:World) (u:AV),Ty.check d x=0->aH w u x->a<=l.length->At w p l->Calls Tryz.prog 122 #[.agg u,.slice p l.length c,.int .i64 a] w (kI w a (Sch.rdV x (l.drop a)))) ?_ x;intro k xs d4 d a w u hd d1 ec cy;obtain⟨q,b4,rfl,fx,fs,d3⟩:=d1.open;unfold an;obtain⟨ff,fg,e4⟩:=Sch.ty_open hd;rcases e4 with ⟨eb,rfl⟩ | ⟨eb,x,rfl,d2⟩
  · have fb:(k != 6)=true:=aQ (by omega);have fc:(k != 7)=true:=aQ (by omega);have a9:Hid (Sch.rdV (.mk k []) (l.drop a)=Sch.scalar k (l.drop a)):=(by show _=_;rw[Sch.rdV_mk,if_pos (by omega)]);have eg:=gQq (fun w' (hb:Below w.1.size w w')=>pF k (by omega) p l c a ds e0 ec w' (cy.on hb));rw[a9.out];clear d4 d3 cy hd d1;go_enter Tryz.func122,Tryz.ntmps122;have a8:Hid (∀K ct,Below w.1.size w ((w.alloc K).alloc ct)):=fun K ct=>gQy.alloc (by simp) _;go_wp2_with fail;obtain⟨b3,cf⟩:∃b3,b3=(w.alloc (.cells #[.int .i64 k,.slice q 0 b4] 34)).alloc (.cells #[.int .i64 0,.int .i64 0,.float .f64 0,.string ⟨#[]⟩,.slice none 0 0] 38):=⟨_,rfl⟩;rw[<-cf];have c6:Hid (Below w.1.size w b3):=(by rw[cf];exact a8.out _ _);have e3:b3.1.size=w.1.size+2:=(by rw[cf];simp);have d8:Hid (b3.1[w.1.size+1]?=some (.cells (cells5 0 0 0 ⟨#[]⟩ none 0 0) 38 (0,0))):=by
      show _=_;rw[cf];have:=am (w.alloc (.cells #[.int .i64 k,.slice q 0 b4] 34)) (.cells #[.int .i64 0,.int .i64 0,.float .f64 0,.string ⟨#[]⟩,.slice none 0 0] 38);simpa[cells5] using this
    clear cf;refine(eg.out b3 c6.out).mono ?_;intro e w1 L;cases hsc:Sch.scalar k (l.drop a) with
    |error er=>
      rw[hsc] at L;obtain⟨rfl,ab⟩:=L;have z:w1.1[w.1.size+1]?=some (.cells (cells5 0 0 0 ⟨#[]⟩ none 0 0) 38 (0,0)):=(ab.block _ (by omega)).trans d8.out;have cg:=eK (q:=none) (n:=0) (c:=0) (F:=fun _=>False) (v:=.mk 0 0 0 ⟨#[]⟩ []) z c6.out (by omega) (ab.mono (by omega)) ab.size aO.none (fun _ h=>h.elim);have D:=gQq cg;obtain⟨bj,bk,bn,bp,bq⟩:=cQ5 z;have br:=ac z 0;have bs:=ac z 1;have bN:=ac z 2;have bO:=ac z 3;have bT:=ac z 4;have db:=gQq hsc;clear ab z cg hsc;unfold cells5;go_wp2;refine bodyPost_ret (ap rfl _ _ (w.1.size+1) _ _ _ _ rfl D.out.1 Tryz.underlying38 rfl (by kernel_rfl)) rfl ?_;rw[db.out];exact⟨rfl,D.out.2.2⟩
    |ok vk=>
      obtain⟨U,o⟩:=vk;rw[hsc] at L;obtain⟨u,rfl,M,ab⟩:=L;obtain⟨k',a5,a2,a7,a6,n',a3,rfl⟩:=M.shape;have z:w1.1[w.1.size+1]?=some (.cells (cells5 0 0 0 ⟨#[]⟩ none 0 0) 38 (0,0)):=(ab.block _ (by omega)).trans d8.out;have cg:=eK z c6.out (by omega) (ab.mono (by omega)) ab.size M (fun j b5=>by rw[e3] at b5;exact b5);have D:=gQq cg;obtain⟨bj,bk,bn,bp,bq⟩:=cQ5 z;have br:=ac z 0;have bs:=ac z 1;have bN:=ac z 2;have bO:=ac z 3;have bT:=ac z 4;have db:=gQq hsc;clear ab z cg hsc M;unfold cells5;go_wp2;refine bodyPost_ret (ap rfl _ _ (w.1.size+1) _ _ _ _ rfl D.out.1 Tryz.underlying38 rfl (by kernel_rfl)) rfl ?_;rw[db.out];exact⟨_,by rw[show((a+o:Nat):Int)=(a:Int)+(o:Int) by omega];rfl,D.out.2.1,D.out.2.2⟩
  · have S:Hid (Sch.rdV (.mk k [x]) (l.drop a)=match Sch.many k (l.drop a) with
        |.error e=>.error e
        |.ok (m,j)=>match Sch.rdN (Sch.rdV x) m ((l.drop a).drop j) with
          |.error e=>.error e
          |.ok (vs,j2)=>.ok (.mk k 0 0 ⟨#[]⟩ vs,j+j2)):=by show _=_;rw[Sch.rdV_mk,if_neg (by omega)];rfl
    obtain⟨ef,ee,ed⟩:=d3 0 (by simp);have cw:Hid (aH w ef x∧fz w q 0 ef):=⟨ee,ed⟩;have d7:=gQq (fun a w u a4 dj ew=>d4 x (by simp) (d+1) a w u d2 a4 dj ew);have cu:=gQq cy;have d9:Hid (∀l' e,Sch.rdV x l'=.error e->e≠0):=fun l' e=>mr x (d+1) l' e d2;have ea:Hid (∀l' v j,Sch.rdV x l'=.ok (v,j)->j<=l'.length):=fun l' v j M=>by
      obtain⟨a4,⟨r,dj⟩,-⟩:=Sch.rdV_ok x (d+1) l' v j d2 M;rw[dj,List.length_append,a4];omega
    clear d4 d3 cy hd d1 ee ed;have a8:Hid (∀K ct,Below w.1.size w ((w.alloc K).alloc ct)):=fun K ct=>gQy.alloc (by simp) _;rcases eb with rfl | rfl
    · have c7:=gQq (fun w' (hb:Below w.1.size w w')=>mq p l c a ds ec w' (cu.out.on hb));go_enter Tryz.func122,Tryz.ntmps122;go_wp2_with fail;refine(c7.out _ (a8.out _ _)).mono ?_;rintro e w1 ⟨rfl,cq⟩;rw[cq];clear cq w1;cases hm:Sch.bit (l.drop a) with
      |error er=>
        simp only[kC];have dh:((er:Int) != 0)=true:=(by have:=fW hm;rw[bne_iff_ne];omega);have a9:Hid (Sch.rdV (.mk 6 [x]) (l.drop a)=.error er):=(by show _=_;rw[S.out,Sch.many,if_pos rfl,hm]);clear S hm c7;go_wp2;refine bodyPost_ret (ap rfl _ _ (w.1.size+1) _ _ _ _ rfl (bK w _ _) Tryz.underlying38 rfl (by kernel_rfl)) rfl ?_;rw[a9.out];exact⟨rfl,a8.out _ _⟩
      |ok nk=>
        obtain⟨m,o⟩:=nk;simp only[kC];have cd:((a+o:Nat):Int)=(a:Int)+(o:Int):=(by omega);rw[cd];clear cd;have hb:=Sch.bit_ok hm;have fi:=hb.1;have e2:m<=256:=(by omega);have dr:a+o<=l.length:=by
          obtain⟨-,a4,r,L⟩:=hb;have:=congrArg List.length L;rw[List.length_drop,List.length_cons] at this;omega
        have ce:Sch.many 6 (l.drop a)=.ok (m,o):=by rw[Sch.many,if_pos rfl,hm]
        have b9:Sch.rdV (.mk 6 [x]) (l.drop a)=match Sch.rdN (Sch.rdV x) m (l.drop (a+o)) with
            |.error e=>.error e
            |.ok (vs,j2)=>.ok (.mk 6 0 0 ⟨#[]⟩ vs,o+j2):=by
          rw[S.out,ce]
          show(match Sch.rdN (Sch.rdV x) m ((l.drop a).drop o) with
            |.error e=>.error e
            |.ok (vs,j2)=>.ok (.mk 6 0 0 ⟨#[]⟩ vs,o+j2):Except Nat (V×Nat))=_
          rw[List.drop_drop]
        clear S hm c7 hb ce;have bb:=gQq b9;clear b9;go_wp2_with fail;go_loopw [10,14] (fun d6 bX wr=>∃(ys:List V) (n:Nat) (a0:OA) (Y:Nat),ys.length<=m∧bX=.int .i64 ys.length∧d6=.int .i64 ((a:Int)+(o:Int)+(n:Int))∧a+o+n<=l.length∧Hid (eA w #[.int .i64 6,.slice q 1 b4] 6 ys (.slice a0 ys.length Y) wr∧Sch.rdN (Sch.rdV x) m (l.drop (a+o))=glue ys n (Sch.rdN (Sch.rdV x) (m-ys.length) (l.drop (a+o+n))))) (fun _ bX _=>m-(intOf bX).toNat);case atStart=>
          refine⟨[],0,none,0,by simp,rfl,by go_num,dr,ga w _ _,?_⟩;rw[List.length_nil,Nat.sub_zero,Nat.add_zero];cases Sch.rdN (Sch.rdV x) m (l.drop (a+o)) with
          |error e=>rfl
          |ok q=>simp[glue]
        case round=>
          obtain⟨ys,n,a0,Y,e5,rfl,rfl,d0,W⟩:=hrel;have y:=gQq W.out.1;have O:=gQq W.out.2;by_cases dv:ys.length<m
          · have e1:(ys.length:Int)<(m:Int):=(by omega);obtain⟨bx,d5,e6,e9,e7,ei,rfl,ez,rfl,be,bi⟩:=(cw.out.2.on y.out.below).lies;rw[Nat.zero_mul,Nat.add_zero] at be bi;have cs:wr.cell? ⟨w.1.size,1,none⟩=some (.slice (some ⟨bx,d5,none⟩) 1 b4):=aa y.out.b0 1;have J:=d7.out (a+o+n) wr _ (cw.out.1.on y.out.below) d0 (cu.out.on y.out.below);rw[show((a+o+n:Nat):Int)=(a:Int)+(o:Int)+(n:Int) by omega] at J
            replace J:=gQq J
            unfold an at J;obtain⟨R,Z⟩:∃R,R=Sch.rdV x (l.drop (a+o+n)):=⟨_,rfl⟩;have ca:=gQq Z;rw[<-Z] at J;have X:Hid (Sch.rdN (Sch.rdV x) m (l.drop (a+o))=glue ys n (iT (Sch.rdV x) (m-(ys.length+1)) (l.drop (a+o+n)) R)):=by
              show _=_;rw[O.out,show m-ys.length=(m-(ys.length+1))+1 by omega,eJ,<-Z]
            clear Z W;go_wp2_with fail;refine J.out.mono ?_;intro e I L;cases R with
            |error er=>
              obtain⟨rfl,E⟩:=L;have dk:=d9.out _ er ca.out.symm;have dh:((er:Int) != 0)=true:=(by rw[bne_iff_ne];omega);have c8:Hid (Sch.rdV (.mk 6 [x]) (l.drop a)=.error er):=(by show _=_;rw[bb.out,X.out];rfl);have cp:=y.out.size;obtain⟨a1,aj⟩:∃a1,a1=I.alloc (.cells #[.int .i64 0,.int .i64 0,.float .f64 0,.string ⟨#[]⟩,.slice none 0 0] 38):=⟨_,rfl⟩;have ah:Below wr.1.size wr a1:=(by rw[aj];exact E.alloc E.size _);have dd:=gQq aj;have z:a1.1[w.1.size+1]?=some (.cells (cells5 0 0 0 ⟨#[]⟩ none 0 0) 38 (0,0)):=(ah.block _ (by omega)).trans y.out.b1;have D:=gQq (eK (q:=none) (n:=0) (c:=0) (F:=fun _=>False) (v:=.mk 0 0 0 ⟨#[]⟩ []) z y.out.below (by omega) (ah.mono (by omega)) ah.size aO.none (fun _ h=>h.elim));obtain⟨bj,bk,bn,bp,bq⟩:=cQ5 z;have br:=ac z 0;have bs:=ac z 1;have bN:=ac z 2;have bO:=ac z 3;have bT:=ac z 4;rw[aj] at bj bk bn bp bq br bs bN bO bT;clear z ah E aj be bi cs J X O y;unfold cells5;go_wp2;rw[<-dd.out];refine bodyPost_ret (ap rfl _ _ (w.1.size+1) _ _ _ _ rfl D.out.1 Tryz.underlying38 rfl (by kernel_rfl)) rfl ?_;rw[c8.out];exact⟨rfl,D.out.2.2⟩
            |ok vk=>
              obtain⟨U,ak⟩:=vk;obtain⟨fa,rfl,M,E⟩:=L;obtain⟨k',a5,a2,a7,a6,n',a3,rfl⟩:=M.shape;obtain⟨us,c5,Q⟩:=y.out.built;have dp:=ea.out _ U ak ca.out.symm;rw[List.length_drop] at dp;have bc:=gQq M;have b6:=gQq E;have b8:=gQq Q;have c2:∀K,(I.alloc K).cell? ⟨w.1.size+2,4,none⟩=some (.slice a0 ys.length Y):=fun K=>by
                have a4:Below wr.1.size wr (I.alloc K):=E.alloc E.size K;exact ae a4 (aa y.out.b2 4)
              have cp:w.1.size+3<=I.1.size:=Nat.le_trans y.out.size E.size;have dc:Hid (Sch.rdN (Sch.rdV x) m (l.drop (a+o))=glue (ys++[U]) (n+ak) (Sch.rdN (Sch.rdV x) (m-(ys++[U]).length) (l.drop (a+o+(n+ak))))):=by
                show _=_;rw[X.out,iT,eS,List.length_append,List.length_singleton,List.drop_drop,Nat.add_assoc (a+o)]
              clear M E Q be bi cs J X O;unfold cells5 at bc ⊢;have b7:Hid (Below I.1.size I ((I.alloc (.cells #[.int .i64 k',.int .i64 a5,.float .f64 a2,.string a7,.slice a6 n' a3] 38)).alloc (.cells #[.int .i64 k',.int .i64 a5,.float .f64 a2,.string a7,.slice a6 n' a3] 38))):=gQy.alloc (by simp) _
              go_wp2_with (at_builtin;refine jn (B:=w.1.size+3) (us:=us) ((b8.out.on b6.out).on b7.out).row (u:=#[.int .i64 k',.int .i64 a5,.float .f64 a2,.string a7,.slice a6 n' a3]) rfl (wS bc.out) (ad:=I.1.size+1) (bK I _ _) (by omega) (by simp;omega) rfl rfl rfl rfl rfl ?_;intro di de w4 co ci ck;obtain⟨hold,cj⟩:=y.out.next b8.out b6.out bc.out (fun _ h=>h) b7.out co ci ck;have en:=ac ((hold 2 (by omega)).trans y.out.b2) 4;have eu:w4.cell? ⟨w.1.size+2,4,none⟩=some (.slice a0 ys.length Y):=aa ((hold 2 (by omega)).trans y.out.b2) 4;have c9:=gQq cj;clear hold cj co ci ck)
              go_roundw;case rel=>exact⟨ys++[U],n+ak,some ⟨di,0,none⟩,de,by simp;omega,by simp,by go_num,by omega,⟨by simpa using c9.out,dc.out⟩⟩
              case measure=>simp[intOf];omega
          · have eC:¬(ys.length:Int)<(m:Int):=(by omega);have cr:ys.length=m:=(by omega);have cp:=y.out.size;have da:Hid (Sch.rdV (.mk 6 [x]) (l.drop a)=.ok (.mk 6 0 0 ⟨#[]⟩ ys,o+n)):=by
              show _=_;rw[bb.out,O.out,cr,Nat.sub_self];simp[Sch.rdN,glue]
            obtain⟨us,c5,Q⟩:=y.out.built;obtain⟨e8,eh,dn,cn⟩:=Q.done (by omega) 6 0 0 ⟨#[]⟩;injection dn with cb df cc;subst cb cc;have D:=gQq (eK y.out.b1 y.out.below (by omega) gQz gQx cn (fun j b5=>⟨by omega,b5.2⟩));obtain⟨el,cb,df,cc,em⟩:=cQ5 y.out.b2;obtain⟨bj,bk,bn,bp,bq⟩:=cQ5 y.out.b1;have br:=ac y.out.b1 0;have bs:=ac y.out.b1 1;have bN:=ac y.out.b1 2;have bO:=ac y.out.b1 3;have bT:=ac y.out.b1 4;clear W O bb Q cn cr dv;go_wp2;refine bodyPost_ret (ap rfl _ _ (w.1.size+1) _ _ _ _ rfl D.out.1 Tryz.underlying38 rfl (by kernel_rfl)) rfl ?_;rw[da.out];exact⟨_,by rw[show((a+(o+n):Nat):Int)=(a:Int)+(o:Int)+(n:Int) by omega];rfl,D.out.2.1,D.out.2.2⟩
    · have cv:=gQq (fun w' (hb:Below w.1.size w w')=>gQ p c l a ds w' (cu.out.on hb));go_enter Tryz.func122,Tryz.ntmps122;go_wp2_with fail;refine(cv.out _ (a8.out _ _)).mono ?_;rintro e w1 ⟨rfl,cq⟩;rw[cq];clear cq w1;cases hm:Sch.num (l.drop a) with
      |error er=>
        simp only[gC];have dk:=ev hm;have dh:((er:Int) != 0)=true:=(by rw[bne_iff_ne];omega);have fe:((er:Int)==0)=false:=bd (by omega);have a9:Hid (Sch.rdV (.mk 7 [x]) (l.drop a)=.error er):=(by show _=_;rw[S.out,Sch.many,if_neg (by decide),hm]);clear S hm cv dk;go_wp2;refine bodyPost_ret (ap rfl _ _ (w.1.size+1) _ _ _ _ rfl (bK w _ _) Tryz.underlying38 rfl (by kernel_rfl)) rfl ?_;rw[a9.out];exact⟨rfl,a8.out _ _⟩
      |ok nk=>
        obtain⟨m,o⟩:=nk;simp only[gC];have cd:((a+o:Nat):Int)=(a:Int)+(o:Int):=(by omega);rw[cd];clear cd;have hb:=Sch.num_ok hm;have dr:a+o<=l.length:=by
          obtain⟨-,r,L,fh⟩:=hb;have:=congrArg List.length L;rw[List.length_drop,List.length_append] at this;omega
        by_cases cx:256<m
        · have ep:(256:Int)<(m:Int):=(by omega);have a9:Hid (Sch.rdV (.mk 7 [x]) (l.drop a)=.error 3):=by
            show _=_;rw[S.out,Sch.many,if_neg (by decide),hm];dsimp only;rw[if_pos cx]
          clear S hm cv hb cx;go_wp2;refine bodyPost_ret (ap rfl _ _ (w.1.size+1) _ _ _ _ rfl (bK w _ _) Tryz.underlying38 rfl (by kernel_rfl)) rfl ?_;rw[a9.out];exact⟨rfl,a8.out _ _⟩
        have ep:¬(256:Int)<(m:Int):=(by omega);have e2:m<=256:=(by omega);have ce:Sch.many 7 (l.drop a)=.ok (m,o):=by
          rw[Sch.many,if_neg (by decide),hm];dsimp only;rw[if_neg cx]
        have b9:Sch.rdV (.mk 7 [x]) (l.drop a)=match Sch.rdN (Sch.rdV x) m (l.drop (a+o)) with
            |.error e=>.error e
            |.ok (vs,j2)=>.ok (.mk 7 0 0 ⟨#[]⟩ vs,o+j2):=by
          rw[S.out,ce]
          show(match Sch.rdN (Sch.rdV x) m ((l.drop a).drop o) with
            |.error e=>.error e
            |.ok (vs,j2)=>.ok (.mk 7 0 0 ⟨#[]⟩ vs,o+j2):Except Nat (V×Nat))=_
          rw[List.drop_drop]
        clear S hm cv hb ce cx;have bb:=gQq b9;clear b9;go_wp2_with fail;go_loopw [10,14] (fun d6 bX wr=>∃(ys:List V) (n:Nat) (a0:OA) (Y:Nat),ys.length<=m∧bX=.int .i64 ys.length∧d6=.int .i64 ((a:Int)+(o:Int)+(n:Int))∧a+o+n<=l.length∧Hid (eA w #[.int .i64 7,.slice q 1 b4] 7 ys (.slice a0 ys.length Y) wr∧Sch.rdN (Sch.rdV x) m (l.drop (a+o))=glue ys n (Sch.rdN (Sch.rdV x) (m-ys.length) (l.drop (a+o+n))))) (fun _ bX _=>m-(intOf bX).toNat);case atStart=>
          refine⟨[],0,none,0,by simp,rfl,by go_num,dr,ga w _ _,?_⟩;rw[List.length_nil,Nat.sub_zero,Nat.add_zero];cases Sch.rdN (Sch.rdV x) m (l.drop (a+o)) with
          |error e=>rfl
          |ok q=>simp[glue]
        case round=>
          obtain⟨ys,n,a0,Y,e5,rfl,rfl,d0,W⟩:=hrel;have y:=gQq W.out.1;have O:=gQq W.out.2;by_cases dv:ys.length<m
          · have e1:(ys.length:Int)<(m:Int):=(by omega);obtain⟨bx,d5,e6,e9,e7,ei,rfl,ez,rfl,be,bi⟩:=(cw.out.2.on y.out.below).lies;rw[Nat.zero_mul,Nat.add_zero] at be bi;have cs:wr.cell? ⟨w.1.size,1,none⟩=some (.slice (some ⟨bx,d5,none⟩) 1 b4):=aa y.out.b0 1;have J:=d7.out (a+o+n) wr _ (cw.out.1.on y.out.below) d0 (cu.out.on y.out.below);rw[show((a+o+n:Nat):Int)=(a:Int)+(o:Int)+(n:Int) by omega] at J
            replace J:=gQq J
            unfold an at J;obtain⟨R,Z⟩:∃R,R=Sch.rdV x (l.drop (a+o+n)):=⟨_,rfl⟩;have ca:=gQq Z;rw[<-Z] at J;have X:Hid (Sch.rdN (Sch.rdV x) m (l.drop (a+o))=glue ys n (iT (Sch.rdV x) (m-(ys.length+1)) (l.drop (a+o+n)) R)):=by
              show _=_;rw[O.out,show m-ys.length=(m-(ys.length+1))+1 by omega,eJ,<-Z]
            clear Z W;go_wp2_with fail;refine J.out.mono ?_;intro e I L;cases R with
            |error er=>
              obtain⟨rfl,E⟩:=L;have dk:=d9.out _ er ca.out.symm;have dh:((er:Int) != 0)=true:=(by rw[bne_iff_ne];omega);have c8:Hid (Sch.rdV (.mk 7 [x]) (l.drop a)=.error er):=(by show _=_;rw[bb.out,X.out];rfl);have cp:=y.out.size;obtain⟨a1,aj⟩:∃a1,a1=I.alloc (.cells #[.int .i64 0,.int .i64 0,.float .f64 0,.string ⟨#[]⟩,.slice none 0 0] 38):=⟨_,rfl⟩;have ah:Below wr.1.size wr a1:=(by rw[aj];exact E.alloc E.size _);have dd:=gQq aj;have z:a1.1[w.1.size+1]?=some (.cells (cells5 0 0 0 ⟨#[]⟩ none 0 0) 38 (0,0)):=(ah.block _ (by omega)).trans y.out.b1;have D:=gQq (eK (q:=none) (n:=0) (c:=0) (F:=fun _=>False) (v:=.mk 0 0 0 ⟨#[]⟩ []) z y.out.below (by omega) (ah.mono (by omega)) ah.size aO.none (fun _ h=>h.elim));obtain⟨bj,bk,bn,bp,bq⟩:=cQ5 z;have br:=ac z 0;have bs:=ac z 1;have bN:=ac z 2;have bO:=ac z 3;have bT:=ac z 4;rw[aj] at bj bk bn bp bq br bs bN bO bT;clear z ah E aj be bi cs J X O y;unfold cells5;go_wp2;rw[<-dd.out];refine bodyPost_ret (ap rfl _ _ (w.1.size+1) _ _ _ _ rfl D.out.1 Tryz.underlying38 rfl (by kernel_rfl)) rfl ?_;rw[c8.out];exact⟨rfl,D.out.2.2⟩
            |ok vk=>
              obtain⟨U,ak⟩:=vk;obtain⟨fa,rfl,M,E⟩:=L;obtain⟨k',a5,a2,a7,a6,n',a3,rfl⟩:=M.shape;obtain⟨us,c5,Q⟩:=y.out.built;have dp:=ea.out _ U ak ca.out.symm;rw[List.length_drop] at dp;have bc:=gQq M;have b6:=gQq E;have b8:=gQq Q;have c2:∀K,(I.alloc K).cell? ⟨w.1.size+2,4,none⟩=some (.slice a0 ys.length Y):=fun K=>by
                have a4:Below wr.1.size wr (I.alloc K):=E.alloc E.size K;exact ae a4 (aa y.out.b2 4)
              have cp:w.1.size+3<=I.1.size:=Nat.le_trans y.out.size E.size;have dc:Hid (Sch.rdN (Sch.rdV x) m (l.drop (a+o))=glue (ys++[U]) (n+ak) (Sch.rdN (Sch.rdV x) (m-(ys++[U]).length) (l.drop (a+o+(n+ak))))):=by
                show _=_;rw[X.out,iT,eS,List.length_append,List.length_singleton,List.drop_drop,Nat.add_assoc (a+o)]
              clear M E Q be bi cs J X O;unfold cells5 at bc ⊢;have b7:Hid (Below I.1.size I ((I.alloc (.cells #[.int .i64 k',.int .i64 a5,.float .f64 a2,.string a7,.slice a6 n' a3] 38)).alloc (.cells #[.int .i64 k',.int .i64 a5,.float .f64 a2,.string a7,.slice a6 n' a3] 38))):=gQy.alloc (by simp) _
              go_wp2_with (at_builtin;refine jn (B:=w.1.size+3) (us:=us) ((b8.out.on b6.out).on b7.out).row (u:=#[.int .i64 k',.int .i64 a5,.float .f64 a2,.string a7,.slice a6 n' a3]) rfl (wS bc.out) (ad:=I.1.size+1) (bK I _ _) (by omega) (by simp;omega) rfl rfl rfl rfl rfl ?_;intro di de w4 co ci ck;obtain⟨hold,cj⟩:=y.out.next b8.out b6.out bc.out (fun _ h=>h) b7.out co ci ck;have en:=ac ((hold 2 (by omega)).trans y.out.b2) 4;have eu:w4.cell? ⟨w.1.size+2,4,none⟩=some (.slice a0 ys.length Y):=aa ((hold 2 (by omega)).trans y.out.b2) 4;have c9:=gQq cj;clear hold cj co ci ck)
              go_roundw;case rel=>exact⟨ys++[U],n+ak,some ⟨di,0,none⟩,de,by simp;omega,by simp,by go_num,by omega,⟨by simpa using c9.out,dc.out⟩⟩
              case measure=>simp[intOf];omega
          · have eC:¬(ys.length:Int)<(m:Int):=(by omega);have cr:ys.length=m:=(by omega);have cp:=y.out.size;have da:Hid (Sch.rdV (.mk 7 [x]) (l.drop a)=.ok (.mk 7 0 0 ⟨#[]⟩ ys,o+n)):=by
              show _=_;rw[bb.out,O.out,cr,Nat.sub_self];simp[Sch.rdN,glue]
            obtain⟨us,c5,Q⟩:=y.out.built;obtain⟨e8,eh,dn,cn⟩:=Q.done (by omega) 7 0 0 ⟨#[]⟩;injection dn with cb df cc;subst cb cc;have D:=gQq (eK y.out.b1 y.out.below (by omega) gQz gQx cn (fun j b5=>⟨by omega,b5.2⟩));obtain⟨el,cb,df,cc,em⟩:=cQ5 y.out.b2;obtain⟨bj,bk,bn,bp,bq⟩:=cQ5 y.out.b1;have br:=ac y.out.b1 0;have bs:=ac y.out.b1 1;have bN:=ac y.out.b1 2;have bO:=ac y.out.b1 3;have bT:=ac y.out.b1 4;clear W O bb Q cn cr dv;go_wp2;refine bodyPost_ret (ap rfl _ _ (w.1.size+1) _ _ _ _ rfl D.out.1 Tryz.underlying38 rfl (by kernel_rfl)) rfl ?_;rw[da.out];exact⟨_,by rw[show((a+(o+n):Nat):Int)=(a:Int)+(o:Int)+(n:Int) by omega];rfl,D.out.2.1,D.out.2.2⟩
end
end Go.Proofs.YtbahfgdbjgkklaaGreatDoor
