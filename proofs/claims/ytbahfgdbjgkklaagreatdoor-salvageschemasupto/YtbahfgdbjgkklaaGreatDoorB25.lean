import Derived.Handy
import Derived.Test.YtbahfgdbjgkklaaGreatDoorB24
set_option maxRecDepth 100000
set_option maxHeartbeats 4000000
namespace Go.Proofs.YtbahfgdbjgkklaaGreatDoor
variable{R:Nat}{W W' w w':World}{y:Int}{e:Ending}
section
open Go.RowKit
def Ae(w:World)(r:Except Nat L8)(e:Ending)(w':World):Prop:=match r with
 |.error k=>e=.returned (.tuple #[.slice none 0 0,.int .i64 (k:Nat)])∧Below w.1.size w w'
 |.ok b=>∃g o cap,e=.returned (.tuple #[.slice (some ⟨g,o,none⟩) b.length cap,.int .i64 0])∧At w' (some ⟨g,o,none⟩) b∧b.length<=cap∧w.1.size<=g∧Below w.1.size w w'
theorem xJ(p:OA)(c:Nat)(l:L8)(ce:l.length<=140737488351232)(cf:l.length<=c)(w:World)(bX:Hv w)(h:At w p l):
  Calls Tryz.prog 61 #[.slice p l.length c] w (Ae w (Fr.open_ l)):=by
 obtain⟨r,a2⟩:∃r,r=Fr.open_ l:=⟨_,rfl⟩
 have U:Hid (r=if 2200<l.length then .error 2 else if (Cob.un l).1≠0 then .error (Cob.un l).1
  else if (Cob.un l).2.length<5 then .error 30
  else if (Cob.un l).2.drop ((Cob.un l).2.length-4)=Sch.le 4 (Crc.sum ((Cob.un l).2.take ((Cob.un l).2.length-4))) then .ok ((Cob.un l).2.take ((Cob.un l).2.length-4)) else .error 120):=a2
 rw[<-a2];clear a2;have O:=gQq (tA p c l w ce cf h);have b5:=gQq bX;clear h bX;by_cases ab:2200<l.length
 ·have b6:(2200:Int)<(l.length:Int):=by omega
  have E:Hid (r=.error 2):=U.out.trans (if_pos ab);clear U ab;go_enter Tryz.func61,Tryz.ntmps61;go_wp2;go_ret2;rw[E.out];exact⟨rfl,gQz⟩
 have b6:¬(2200:Int)<(l.length:Int):=by omega
 have K:=gQq (U.out.trans (if_neg ab));have ci:=Cob.un_length l;unfold iK at O;obtain⟨S,bT⟩:∃S,S=(Cob.un l).1:=⟨_,rfl⟩;obtain⟨D,bO⟩:∃D,D=(Cob.un l).2:=⟨_,rfl⟩;rw[<-bO] at O ci K;rw[<-bT] at O K;clear U bT bO;go_enter Tryz.func61,Tryz.ntmps61;go_wp2_with fail;refine O.out.mono ?_;rintro e w1 ⟨q,cap,rfl,bq,cb,bN,hb⟩;have M:=gQq hb;have b2:=gQq bq;have bc:=gQq bN;clear bq bN hb O;by_cases a0:S=0
 ·subst a0;have E:=gQq (K.out.trans (if_neg (by omega)));clear K;by_cases L:D.length<5
  ·have Z:(D.length:Int)<5:=(by omega);have J:Hid (r=.error 30):=E.out.trans (if_pos L);clear E L;go_wp2;go_ret2;rw[J.out];exact⟨rfl,M.out⟩
  have Z:¬(D.length:Int)<5:=by omega
  have J:=gQq (E.out.trans (if_neg L));clear E;obtain⟨g,z,rfl,cc,Q⟩:=bc.out (fun ak=>by rw[ak] at L;simp at L);obtain⟨o,ah⟩:∃o,D.length=o+4:=⟨D.length-4,by omega⟩;have bn:D.length-4=o:=by omega
  rw[bn] at J;obtain⟨b,hb⟩:∃b,b=D.take o:=⟨_,rfl⟩;obtain⟨s,V⟩:∃s,s=D.drop o:=⟨_,rfl⟩;have aj:b.length=o:=by rw[hb,List.length_take];omega
  have cg:s.length=4:=by rw[V,List.length_drop];omega
  have a7:Hid (At w1 (some ⟨g,z,none⟩) b):=by rw[hb];exact .inr ⟨g,z,rfl,Q.1,cE Q.2.1 o⟩
  have b4:Hid (At w1 (some ⟨g,z+o,none⟩) s):=by rw[V];exact .inr ⟨g,z+o,rfl,Q.1,cF Q.2.1 o⟩
  rw[<-hb,<-V] at J;have ck:(o:Int)<=2200:=by omega
  have b7:(o:Int)<=(D.length:Int):=by omega
  have cj:(o:Int)<=(cap:Int):=by omega
  have b8:((D.length:Nat):Int)-4=(o:Int):=by omega
  have br:fX (some ⟨g,z,none⟩) cap=some ⟨g,z,none⟩:=by
   unfold fX;split
   ·rfl
   ·rw[Option.map_some,Lib.add_plain];rfl
  have bs:dN (some ⟨g,z,none⟩) o cap=some ⟨g,z+o,none⟩:=by
   unfold dN;rw[if_neg (by omega),Option.map_some,Lib.add_plain]
  have cn:∀w',(Instr.slice 22 (.slice (some ⟨g,z,none⟩) (o+4) cap) none (some (.int .i64 (o:Int))) none).run Tryz.prog w'=.ok (.slice (some ⟨g,z,none⟩) o cap) w':=fun w'=>by
   have:=lx (some ⟨g,z,none⟩) (o+4) cap o (by omega) w';rw[br] at this;exact this
  have co:∀w',(Instr.slice 22 (.slice (some ⟨g,z,none⟩) (o+4) cap) (some (.int .i64 (o:Int))) none none).run Tryz.prog w'=.ok (.slice (some ⟨g,z+o,none⟩) 4 (cap-o)) w':=fun w'=>by
   have:=eI (some ⟨g,z,none⟩) (o+4) cap o (by omega) w';rw[bs,Nat.add_sub_cancel_left] at this;exact this
  have bi:Hid (∀w',Below w1.1.size w1 w'->Calls Tryz.prog 93 #[.slice (some ⟨g,z,none⟩) o cap] w' fun e a5=>e=.returned (.slice (some ⟨w'.1.size,0,none⟩) 4 4)∧a5=w'.alloc (.cells (cellsOf (Sch.le 4 (Crc.sum b))).toArray 5)):=fun w' I=>by
   have:=tI (some ⟨g,z,none⟩) cap b (by omega) w' ((b5.out.next M.out).next I) (a7.out.on I);rw[aj] at this;exact this
  obtain⟨k,a1⟩:∃k,k=Sch.le 4 (Crc.sum b):=⟨_,rfl⟩;rw[<-a1] at bi J;have cd:k.length=4:=by rw[a1,Sch.le_len]
  have bb:Hid (∀w' W,Below w1.1.size w1 w'->W=w'.alloc (.cells (cellsOf k).toArray 5)->Calls Tryz.prog 96 #[.slice (some ⟨w'.1.size,0,none⟩) 4 4,.slice (some ⟨g,z+o,none⟩) 4 (cap-o)] W fun e a5=>e=.returned (.bool (k==s))∧a5=W):=fun w' W I bp=>by
   have ca:Below w1.1.size w1 W:=(by rw[bp];exact I.alloc I.size _);have:=yJ (some ⟨w'.1.size,0,none⟩) (some ⟨g,z+o,none⟩) 4 (cap-o) k s W (by rw[bp];exact vO w' _ k rfl) (b4.out.on ca);rw[cd,cg] at this;exact this
  have a8:Hid (∀w' a4,Below w1.1.size w1 w'->Below w1.1.size w1 (w'.alloc a4)):=fun w' a4 I=>I.alloc I.size a4;obtain⟨t,a3⟩:∃t,t=(k==s):=⟨_,rfl⟩;rw[<-a3] at bb;have bj:=gQq a3;have be:=gQq aj;rw[ah];rw[ah] at cb Z b7;clear a1 hb V Q L bc b2 a3 bn b8 br bs ah aj;go_wp2_with fail
  go_region_held3 (fun _=>True) (trivial) (first|(go_at_call 93;refine(bi.out _ (gQz.drew)).mono ?_;rintro e cp ⟨rfl,b0⟩;have Y:=gQq b0;clear b0)|(go_at_call 96;refine(bb.out w1.drew _ (gQz.drew) Y.out).mono ?_;rintro e a6 ⟨rfl,b1⟩;have bk:=gQq b1;clear b1)|fail)
  have a9:Hid (Below w.1.size w a6):=by
   rw[bk.out,Y.out];exact M.out.trans ((a8.out _ _ (gQz.drew)).mono M.out.size)
  have b3:Hid (At a6 (some ⟨g,z,none⟩) b):=by
   have b9:Below w1.1.size w1 a6:=(by rw[bk.out,Y.out];exact a8.out _ _ (gQz.drew));exact a7.out.on b9
  cases t with
  |false=>
   have X:Hid (r=.error 120):=by
    show _=_;rw[J.out,if_neg];intro ak;have:=bj.out;rw[ak,beq_self_eq_true] at this;cases this
   go_wp2;go_ret2;rw[X.out];exact⟨rfl,a9.out⟩
  |true=>
   have X:Hid (r=.ok b):=by
    show _=_;have:=bj.out.symm;rw[beq_iff_eq] at this;rw[J.out,if_pos this.symm]
   go_wp2;go_ret2;rw[X.out];exact⟨g,z,cap,by rw[be.out];rfl,b3.out,by rw[be.out];omega,cc,a9.out⟩
 ·have Z:((S:Int) != 0)=true:=by rw[bne_iff_ne];omega
  have E:Hid (r=.error S):=K.out.trans (if_pos a0);clear K a0;go_wp2;go_ret2;rw[E.out];exact⟨rfl,M.out⟩
end
section
open Go.RowKit
theorem ze(x:Value)(w:World):(Instr.typeAssert (.iface 165 x) 122 165 true).run Tryz.prog w=.ok (.tuple #[x,.bool true]) w:=by kernel_rfl
theorem zc(x:Value)(w:World):(Instr.typeAssert (.iface 165 x) 122 167 true).run Tryz.prog w=.ok (.tuple #[.agg #[.int .i64 0,.int .i64 0,.int .i64 0,.int .i64 0,.slice none 0 0],.bool false]) w:=by kernel_rfl
theorem zb(x:Value)(w:World):(Instr.typeAssert (.iface 165 x) 122 169 true).run Tryz.prog w=.ok (.tuple #[.agg #[.int .i64 0,.int .i64 0,.int .i64 0,.slice none 0 0],.bool false]) w:=by kernel_rfl
theorem za(x:Value)(w:World):(Instr.typeAssert (.iface 167 x) 122 165 true).run Tryz.prog w=.ok (.tuple #[.agg #[.int .i64 0,.slice none 0 0],.bool false]) w:=by kernel_rfl
theorem yZ(x:Value)(w:World):(Instr.typeAssert (.iface 167 x) 122 167 true).run Tryz.prog w=.ok (.tuple #[x,.bool true]) w:=by kernel_rfl
theorem yY(x:Value)(w:World):(Instr.typeAssert (.iface 167 x) 122 169 true).run Tryz.prog w=.ok (.tuple #[.agg #[.int .i64 0,.int .i64 0,.int .i64 0,.slice none 0 0],.bool false]) w:=by kernel_rfl
theorem yX(x:Value)(w:World):(Instr.typeAssert (.iface 169 x) 122 165 true).run Tryz.prog w=.ok (.tuple #[.agg #[.int .i64 0,.slice none 0 0],.bool false]) w:=by kernel_rfl
theorem yW(x:Value)(w:World):(Instr.typeAssert (.iface 169 x) 122 167 true).run Tryz.prog w=.ok (.tuple #[.agg #[.int .i64 0,.int .i64 0,.int .i64 0,.int .i64 0,.slice none 0 0],.bool false]) w:=by kernel_rfl
theorem yV(x:Value)(w:World):(Instr.typeAssert (.iface 169 x) 122 169 true).run Tryz.prog w=.ok (.tuple #[x,.bool true]) w:=by kernel_rfl
theorem sM(n:Int)(sp:OA)(z o:Nat)(w:World):Calls Tryz.prog 63 #[.iface 165 (.agg #[.int .i64 n,.slice sp z o])] w fun e w'=>e=.returned (.agg #[.int .i64 1,.int .i64 n,.slice sp z o,.int .i64 0,.int .i64 0,.int .i64 0,.slice none 0 0,.int .i64 0,.int .i64 0,.int .i64 0,.slice none 0 0])∧Below w.1.size w w':=by
 have J:=ze (.agg #[.int .i64 n,.slice sp z o]);have K:=zc (.agg #[.int .i64 n,.slice sp z o]);have L:=zb (.agg #[.int .i64 n,.slice sp z o]);have I:Hid (∀D E,Below w.1.size w ((w.alloc D).alloc E)):=fun D E=>gQy.alloc (by simp) _;go_enter Tryz.func63,Tryz.ntmps63;go_wp2;refine bodyPost_ret (v:=.agg #[.int .i64 1,.int .i64 n,.slice sp z o,.int .i64 0,.int .i64 0,.int .i64 0,.slice none 0 0,.int .i64 0,.int .i64 0,.int .i64 0,.slice none 0 0]) (results_cell_row rfl _ _ w.1.size _ _ _ _ rfl (aV w _ _) Tryz.underlying67 rfl (by kernel_rfl)) rfl ?_;exact⟨rfl,I.out _ _⟩
theorem sL(n q E r:Int)(D:OA)(z o:Nat)(w:World):Calls Tryz.prog 63 #[.iface 167 (.agg #[.int .i64 n,.int .i64 q,.int .i64 E,.int .i64 r,.slice D z o])] w fun e w'=>e=.returned (.agg #[.int .i64 2,.int .i64 n,.slice none 0 0,.int .i64 q,.int .i64 E,.int .i64 r,.slice D z o,.int .i64 0,.int .i64 0,.int .i64 0,.slice none 0 0])∧Below w.1.size w w':=by
 have L:=za (.agg #[.int .i64 n,.int .i64 q,.int .i64 E,.int .i64 r,.slice D z o]);have M:=yZ (.agg #[.int .i64 n,.int .i64 q,.int .i64 E,.int .i64 r,.slice D z o]);have O:=yY (.agg #[.int .i64 n,.int .i64 q,.int .i64 E,.int .i64 r,.slice D z o]);have K:Hid (∀I J,Below w.1.size w ((w.alloc I).alloc J)):=fun I J=>gQy.alloc (by simp) _;go_enter Tryz.func63,Tryz.ntmps63;go_wp2;refine bodyPost_ret (v:=.agg #[.int .i64 2,.int .i64 n,.slice none 0 0,.int .i64 q,.int .i64 E,.int .i64 r,.slice D z o,.int .i64 0,.int .i64 0,.int .i64 0,.slice none 0 0]) (results_cell_row rfl _ _ w.1.size _ _ _ _ rfl (aV w _ _) Tryz.underlying67 rfl (by kernel_rfl)) rfl ?_;exact⟨rfl,K.out _ _⟩
theorem sK(E I J:Int)(D:OA)(z o:Nat)(w:World):Calls Tryz.prog 63 #[.iface 169 (.agg #[.int .i64 E,.int .i64 I,.int .i64 J,.slice D z o])] w fun e w'=>e=.returned (.agg #[.int .i64 3,.int .i64 0,.slice none 0 0,.int .i64 0,.int .i64 0,.int .i64 0,.slice none 0 0,.int .i64 E,.int .i64 I,.int .i64 J,.slice D z o])∧Below w.1.size w w':=by
 have O:=yX (.agg #[.int .i64 E,.int .i64 I,.int .i64 J,.slice D z o]);have Q:=yW (.agg #[.int .i64 E,.int .i64 I,.int .i64 J,.slice D z o]);have S:=yV (.agg #[.int .i64 E,.int .i64 I,.int .i64 J,.slice D z o]);have M:Hid (∀K L,Below w.1.size w ((w.alloc K).alloc L)):=fun K L=>gQy.alloc (by simp) _;go_enter Tryz.func63,Tryz.ntmps63;go_wp2;refine bodyPost_ret (v:=.agg #[.int .i64 3,.int .i64 0,.slice none 0 0,.int .i64 0,.int .i64 0,.int .i64 0,.slice none 0 0,.int .i64 E,.int .i64 I,.int .i64 J,.slice D z o]) (results_cell_row rfl _ _ w.1.size _ _ _ _ rfl (aV w _ _) Tryz.underlying67 rfl (by kernel_rfl)) rfl ?_;exact⟨rfl,M.out _ _⟩
end
section
open Go.RowKit
def uR(B:Nat)(f:Fr)(v:Value)(w:World):Prop:=(f.kind=1∧∃x,v=.iface 165 x∧zw B f x w)∨(f.kind=2∧∃x,v=.iface 167 x∧zx B f x w)∨(f.kind=3∧∃x,v=.iface 169 x∧uQ B f x w)
theorem gH.good{f:Fr}{V:Fr->Value->World->Prop}(h:gH w R (.ok f) V e w'):∃v,e=.returned v∧V f v w'∧Aside (fun i=>i=R) w w':=h
theorem gH.bad{k:Nat}{V:Fr->Value->World->Prop}(h:gH w R (.error k) V e w'):e=.panicked (dK k)∧Aside (fun i=>i=R) w w':=h
theorem sQ(l:L8)(A R:Nat)(w:World)(h:cH w A R l):Calls Tryz.prog 64 #[.pointer (some ⟨R,0,none⟩),.int .i64 1] w (gH w R (Fr.rdS l) (uR w.1.size)):=by
 have o:=gQq (kO l A R w h);obtain⟨r,E⟩:∃r,r=Fr.rdS l:=⟨_,rfl⟩;rw[<-E] at o ⊢;clear h;cases r with
 |error er=>
  clear E;go_enter Tryz.func64,Tryz.ntmps64;go_wp2_with fail;refine o.out.mono ?_;intro e w1 D;obtain⟨J,z⟩:=D.bad;subst J;have I:=gQq z;clear D z o;go_wp2;exact⟨rfl,rfl,I.out⟩
 |ok f=>
  have L:Hid (f.kind=1):=by
   have:=(Fr.rdF_ok (k:=1) (l:=l) (f:=f) (by rw[E];rfl)).1;exact this
  clear E;go_enter Tryz.func64,Tryz.ntmps64;go_wp2_with fail;refine o.out.mono ?_;intro e w1 D;obtain⟨v,J,K,z⟩:=D.good;subst J;have I:=gQq z;have M:=gQq K;obtain⟨p,c,rfl,-⟩:=K;clear D z o;go_wp2;go_ret;exact⟨_,rfl,.inl ⟨L.out,_,rfl,M.out⟩,I.out⟩
theorem sP(l:L8)(A R:Nat)(w:World)(h:cH w A R l):Calls Tryz.prog 64 #[.pointer (some ⟨R,0,none⟩),.int .i64 2] w (gH w R (Fr.rdD l) (uR w.1.size)):=by
 have o:=gQq (oF l A R w h);obtain⟨r,E⟩:∃r,r=Fr.rdD l:=⟨_,rfl⟩;rw[<-E] at o ⊢;clear h;cases r with
 |error er=>
  clear E;go_enter Tryz.func64,Tryz.ntmps64;go_wp2_with fail;refine o.out.mono ?_;intro e w1 D;obtain⟨J,z⟩:=D.bad;subst J;have I:=gQq z;clear D z o;go_wp2;exact⟨rfl,rfl,I.out⟩
 |ok f=>
  have L:Hid (f.kind=2):=by
   have:=(Fr.rdF_ok (k:=2) (l:=l) (f:=f) (by rw[E];rfl)).1;exact this
  clear E;go_enter Tryz.func64,Tryz.ntmps64;go_wp2_with fail;refine o.out.mono ?_;intro e w1 D;obtain⟨v,J,K,z⟩:=D.good;subst J;have I:=gQq z;have M:=gQq K;obtain⟨p,c,rfl,-⟩:=K;clear D z o;go_wp2;go_ret;exact⟨_,rfl,.inr (.inl ⟨L.out,_,rfl,M.out⟩),I.out⟩
theorem sO(l:L8)(A R:Nat)(w:World)(h:cH w A R l):Calls Tryz.prog 64 #[.pointer (some ⟨R,0,none⟩),.int .i64 3] w (gH w R (Fr.rdI l) (uR w.1.size)):=by
 have o:=gQq (mC l A R w h);obtain⟨r,E⟩:∃r,r=Fr.rdI l:=⟨_,rfl⟩;rw[<-E] at o ⊢;clear h;cases r with
 |error er=>
  clear E;go_enter Tryz.func64,Tryz.ntmps64;go_wp2_with fail;refine o.out.mono ?_;intro e w1 D;obtain⟨J,z⟩:=D.bad;subst J;have I:=gQq z;clear D z o;go_wp2;exact⟨rfl,rfl,I.out⟩
 |ok f=>
  have L:Hid (f.kind=3):=by
   have:=(Fr.rdF_ok (k:=3) (l:=l) (f:=f) (by rw[E];rfl)).1;exact this
  clear E;go_enter Tryz.func64,Tryz.ntmps64;go_wp2_with fail;refine o.out.mono ?_;intro e w1 D;obtain⟨v,J,K,z⟩:=D.good;subst J;have I:=gQq z;have M:=gQq K;obtain⟨p,c,rfl,-⟩:=K;clear D z o;go_wp2;go_ret;exact⟨_,rfl,.inr (.inr ⟨L.out,_,rfl,M.out⟩),I.out⟩
theorem sR(k:Int)(o:k≠1)(z:k≠2)(D:k≠3)(R:Nat)(w:World):Calls Tryz.prog 64 #[.pointer (some ⟨R,0,none⟩),.int .i64 k] w (gH w R (.error 60) (uR w.1.size)):=by
 have E:(k==1)=false:=bd o;have I:(k==2)=false:=bd z;have J:(k==3)=false:=bd D;clear o z D;go_enter Tryz.func64,Tryz.ntmps64;go_wp2;exact⟨rfl,rfl,Aside.refl _ _⟩
theorem xk(k:Nat)(l:L8)(A R:Nat)(w:World)(h:cH w A R l):Calls Tryz.prog 64 #[.pointer (some ⟨R,0,none⟩),.int .i64 k] w (gH w R (Fr.rdF k l) (uR w.1.size)):=by
 unfold Fr.rdF;by_cases o:k=1
 ·subst o;rw[if_pos rfl];exact sQ l A R w h
 rw[if_neg o];by_cases z:k=2
 ·subst z;rw[if_pos rfl];exact sP l A R w h
 rw[if_neg z];by_cases D:k=3
 ·subst D;rw[if_pos rfl];exact sO l A R w h
 rw[if_neg D];exact sR k (by omega) (by omega) (by omega) R w
end
section
open Go.RowKit
theorem cz(w:World):w.drew.1=w.1:=rfl
def lo(w:World)(g:Nat)(c0 c1 c2 c3 c4 c5 c6 c7 c8 c9 c10:Value):World:=((((((((((w.setCell ⟨g,0,none⟩ c0).setCell ⟨g,1,none⟩ c1).setCell ⟨g,2,none⟩ c2).setCell ⟨g,3,none⟩ c3).setCell ⟨g,4,none⟩ c4).setCell ⟨g,5,none⟩ c5).setCell ⟨g,6,none⟩ c6).setCell ⟨g,7,none⟩ c7).setCell ⟨g,8,none⟩ c8).setCell ⟨g,9,none⟩ c9).setCell ⟨g,10,none⟩ c10
theorem az{g:Nat}{T:TypeId}{a6 Y X V S Q M L J I D:Value}(h:w.1[g]?=some (.cells #[a6,Y,X,V,S,Q,M,L,J,I,D] T (0,0)))(c0 c1 c2 c3 c4 o z E K O U:Value):(lo w g c0 c1 c2 c3 c4 o z E K O U).1[g]?=some (.cells #[c0,c1,c2,c3,c4,o,z,E,K,O,U] T (0,0)):=by
 have Z:(w.setCell ⟨g,0,none⟩ c0).1[g]?=some (.cells #[c0,Y,X,V,S,Q,M,L,J,I,D] T (0,0)):=ai h 0 _;have ab:((w.setCell ⟨g,0,none⟩ c0).setCell ⟨g,1,none⟩ c1).1[g]?=some (.cells #[c0,c1,X,V,S,Q,M,L,J,I,D] T (0,0)):=ai Z 1 _;have aj:(((w.setCell ⟨g,0,none⟩ c0).setCell ⟨g,1,none⟩ c1).setCell ⟨g,2,none⟩ c2).1[g]?=some (.cells #[c0,c1,c2,V,S,Q,M,L,J,I,D] T (0,0)):=ai ab 2 _;have ak:((((w.setCell ⟨g,0,none⟩ c0).setCell ⟨g,1,none⟩ c1).setCell ⟨g,2,none⟩ c2).setCell ⟨g,3,none⟩ c3).1[g]?=some (.cells #[c0,c1,c2,c3,S,Q,M,L,J,I,D] T (0,0)):=ai aj 3 _;have a0:(((((w.setCell ⟨g,0,none⟩ c0).setCell ⟨g,1,none⟩ c1).setCell ⟨g,2,none⟩ c2).setCell ⟨g,3,none⟩ c3).setCell ⟨g,4,none⟩ c4).1[g]?=some (.cells #[c0,c1,c2,c3,c4,Q,M,L,J,I,D] T (0,0)):=ai ak 4 _;have a1:((((((w.setCell ⟨g,0,none⟩ c0).setCell ⟨g,1,none⟩ c1).setCell ⟨g,2,none⟩ c2).setCell ⟨g,3,none⟩ c3).setCell ⟨g,4,none⟩ c4).setCell ⟨g,5,none⟩ o).1[g]?=some (.cells #[c0,c1,c2,c3,c4,o,M,L,J,I,D] T (0,0)):=ai a0 5 _;have a2:(((((((w.setCell ⟨g,0,none⟩ c0).setCell ⟨g,1,none⟩ c1).setCell ⟨g,2,none⟩ c2).setCell ⟨g,3,none⟩ c3).setCell ⟨g,4,none⟩ c4).setCell ⟨g,5,none⟩ o).setCell ⟨g,6,none⟩ z).1[g]?=some (.cells #[c0,c1,c2,c3,c4,o,z,L,J,I,D] T (0,0)):=ai a1 6 _;have a3:((((((((w.setCell ⟨g,0,none⟩ c0).setCell ⟨g,1,none⟩ c1).setCell ⟨g,2,none⟩ c2).setCell ⟨g,3,none⟩ c3).setCell ⟨g,4,none⟩ c4).setCell ⟨g,5,none⟩ o).setCell ⟨g,6,none⟩ z).setCell ⟨g,7,none⟩ E).1[g]?=some (.cells #[c0,c1,c2,c3,c4,o,z,E,J,I,D] T (0,0)):=ai a2 7 _
 have a4:(((((((((w.setCell ⟨g,0,none⟩ c0).setCell ⟨g,1,none⟩ c1).setCell ⟨g,2,none⟩ c2).setCell ⟨g,3,none⟩ c3).setCell ⟨g,4,none⟩ c4).setCell ⟨g,5,none⟩ o).setCell ⟨g,6,none⟩ z).setCell ⟨g,7,none⟩ E).setCell ⟨g,8,none⟩ K).1[g]?=some (.cells #[c0,c1,c2,c3,c4,o,z,E,K,I,D] T (0,0)):=ai a3 8 _;have a5:((((((((((w.setCell ⟨g,0,none⟩ c0).setCell ⟨g,1,none⟩ c1).setCell ⟨g,2,none⟩ c2).setCell ⟨g,3,none⟩ c3).setCell ⟨g,4,none⟩ c4).setCell ⟨g,5,none⟩ o).setCell ⟨g,6,none⟩ z).setCell ⟨g,7,none⟩ E).setCell ⟨g,8,none⟩ K).setCell ⟨g,9,none⟩ O).1[g]?=some (.cells #[c0,c1,c2,c3,c4,o,z,E,K,O,D] T (0,0)):=ai a4 9 _;have ah:(((((((((((w.setCell ⟨g,0,none⟩ c0).setCell ⟨g,1,none⟩ c1).setCell ⟨g,2,none⟩ c2).setCell ⟨g,3,none⟩ c3).setCell ⟨g,4,none⟩ c4).setCell ⟨g,5,none⟩ o).setCell ⟨g,6,none⟩ z).setCell ⟨g,7,none⟩ E).setCell ⟨g,8,none⟩ K).setCell ⟨g,9,none⟩ O).setCell ⟨g,10,none⟩ U).1[g]?=some (.cells #[c0,c1,c2,c3,c4,o,z,E,K,O,U] T (0,0)):=ai a5 10 _;exact ah
theorem aA(w:World)(g:Nat)(c0 c1 c2 c3 c4 z D E I J o:Value):Aside (fun i=>i=g) w (lo w g c0 c1 c2 c3 c4 z D E I J o):=(((((((((((ag w g 0 _).trans (ag _ g 1 _) (fun _ _ h=>h)).trans (ag _ g 2 _) (fun _ _ h=>h)).trans (ag _ g 3 _) (fun _ _ h=>h)).trans (ag _ g 4 _) (fun _ _ h=>h)).trans (ag _ g 5 _) (fun _ _ h=>h)).trans (ag _ g 6 _) (fun _ _ h=>h)).trans (ag _ g 7 _) (fun _ _ h=>h)).trans (ag _ g 8 _) (fun _ _ h=>h)).trans (ag _ g 9 _) (fun _ _ h=>h)).trans (ag _ g 10 _) (fun _ _ h=>h))
structure bm(w W:World)(y:Int):Prop where
 b0:W.1[w.1.size]?=some (.cells #[.int .i64 0,.int .i64 0,.slice none 0 0,.int .i64 0,.int .i64 0,.int .i64 0,.slice none 0 0,.int .i64 0,.int .i64 0,.int .i64 0,.slice none 0 0] 67 (0,0))
 b1:W.1[w.1.size+1]?=some (.cells #[.int .i64 y] 68 (0,0))
 size:w.1.size+2<=W.1.size
 below:Below w.1.size w W
theorem gi(w:World):bm w ((w.alloc (.cells #[.int .i64 0,.int .i64 0,.slice none 0 0,.int .i64 0,.int .i64 0,.int .i64 0,.slice none 0 0,.int .i64 0,.int .i64 0,.int .i64 0,.slice none 0 0] 67)).alloc (.cells #[.int .i64 0] 68)) 0 :=
 ⟨aV w _ _,bK w _ _,by simp,gQy.alloc (by simp) _⟩
theorem bm.on(h:bm w W y)(hb:Below W.1.size W W'):bm w W' y:=by
 have o:=h.size;exact⟨(hb.block _ (by omega)).trans h.b0,(hb.block _ (by omega)).trans h.b1,Nat.le_trans o hb.size,h.below.trans (hb.mono (by omega))⟩
theorem bm.step(h:bm w W y)(o:Aside (fun i=>i=R) W W')(D:w.1.size+2<=R):bm w W' y:=by
 have z:=h.size;exact⟨(o.block _ (by omega) (by omega)).trans h.b0,(o.block _ (by omega) (by omega)).trans h.b1,Nat.le_trans z o.size,h.below.trans (o.below (by omega) (fun k E=>by omega))⟩
theorem bm.setE(h:bm w W y)(z:Int):bm w (W.setCell ⟨w.1.size+1,0,none⟩ (.int .i64 z)) z:=by
 have D:=h.size;have o:Aside (fun i=>i=w.1.size+1) W (W.setCell ⟨w.1.size+1,0,none⟩ (.int .i64 z)):=ag _ _ _ _;exact⟨(o.block _ (by omega) (by omega)).trans h.b0,ai h.b1 0 _,Nat.le_trans D o.size,h.below.trans (o.below (by omega) (fun k E=>by omega))⟩
theorem bm.drew(h:bm w W y):bm w W.drew y:=⟨h.b0,h.b1,h.size,h.below.drew⟩
theorem me(k:Int)(w:World):(Instr.typeAssert (.iface 68 (.int .i64 k)) 20 68 false).run Tryz.prog w=.ok (.int .i64 k) w:=by kernel_rfl
theorem ig(G z:Nat)(k:Int)(y:Int)(w:World)(o:w.1[G]?=some (.cells #[.int .i64 0,.int .i64 0,.slice none 0 0,.int .i64 0,.int .i64 0,.int .i64 0,.slice none 0 0,.int .i64 0,.int .i64 0,.int .i64 0,.slice none 0 0] 67 (0,0)))(D:w.1[z]?=some (.cells #[.int .i64 y] 68 (0,0)))(L:G≠z):
  CallsD Tryz.prog 62 #[.pointer (some ⟨G,0,none⟩),.pointer (some ⟨z,0,none⟩)] (.panicking [{ v:=.iface 68 (.int .i64 k),recovered:=false }]) w fun e Z w'=>
   e=.returned (.tuple #[])∧Z=.panicking [{ v:=.iface 68 (.int .i64 k),recovered:=true }]∧w'.1[G]?=some (.cells #[.int .i64 0,.int .i64 0,.slice none 0 0,.int .i64 0,.int .i64 0,.int .i64 0,.slice none 0 0,.int .i64 0,.int .i64 0,.int .i64 0,.slice none 0 0] 67 (0,0))∧w'.1[z]?=some (.cells #[.int .i64 k] 68 (0,0))∧Aside (fun i=>i=G∨i=z) w w':=by
 have ab:=me k;have ah:w.cell? ⟨G,0,none⟩=some (.int .i64 0):=aa o 0;have a8:=ac o 0;have aj:w.cell? ⟨G,1,none⟩=some (.int .i64 0):=aa o 1;have a9:=ac o 1;have a0:w.cell? ⟨G,2,none⟩=some (.slice none 0 0):=aa o 2;have bc:=ac o 2;have a1:w.cell? ⟨G,3,none⟩=some (.int .i64 0):=aa o 3;have be:=ac o 3;have a2:w.cell? ⟨G,4,none⟩=some (.int .i64 0):=aa o 4;have bi:=ac o 4;have a3:w.cell? ⟨G,5,none⟩=some (.int .i64 0):=aa o 5;have bj:=ac o 5;have a4:w.cell? ⟨G,6,none⟩=some (.slice none 0 0):=aa o 6;have bk:=ac o 6;have a5:w.cell? ⟨G,7,none⟩=some (.int .i64 0):=aa o 7;have bn:=ac o 7;have a6:w.cell? ⟨G,8,none⟩=some (.int .i64 0):=aa o 8;have bp:=ac o 8;have a7:w.cell? ⟨G,9,none⟩=some (.int .i64 0):=aa o 9;have bq:=ac o 9;have ak:w.cell? ⟨G,10,none⟩=some (.slice none 0 0):=aa o 10;have bb:=ac o 10;have br:w.cell? ⟨z,0,none⟩=some (.int .i64 y):=aa D 0;have bs:=ac D 0;have X:z≠G:=fun h=>L h.symm;obtain⟨W,E⟩:∃W,W=((((((((((((w.setCell ⟨G,0,none⟩ (.int .i64 0)).setCell ⟨G,1,none⟩ (.int .i64 0)).setCell ⟨G,2,none⟩ (.slice none 0 0)).setCell ⟨G,3,none⟩ (.int .i64 0)).setCell ⟨G,4,none⟩ (.int .i64 0)).setCell ⟨G,5,none⟩ (.int .i64 0)).setCell ⟨G,6,none⟩ (.slice none 0 0)).setCell ⟨G,7,none⟩ (.int .i64 0)).setCell ⟨G,8,none⟩ (.int .i64 0)).setCell ⟨G,9,none⟩ (.int .i64 0)).setCell ⟨G,10,none⟩ (.slice none 0 0)).setCell ⟨z,0,none⟩ (.int .i64 k)).drew:=⟨_,rfl⟩
 have I:Aside (fun i=>i=G) w (((((((((((w.setCell ⟨G,0,none⟩ (.int .i64 0)).setCell ⟨G,1,none⟩ (.int .i64 0)).setCell ⟨G,2,none⟩ (.slice none 0 0)).setCell ⟨G,3,none⟩ (.int .i64 0)).setCell ⟨G,4,none⟩ (.int .i64 0)).setCell ⟨G,5,none⟩ (.int .i64 0)).setCell ⟨G,6,none⟩ (.slice none 0 0)).setCell ⟨G,7,none⟩ (.int .i64 0)).setCell ⟨G,8,none⟩ (.int .i64 0)).setCell ⟨G,9,none⟩ (.int .i64 0)).setCell ⟨G,10,none⟩ (.slice none 0 0)):=aA w G (.int .i64 0) (.int .i64 0) (.slice none 0 0) (.int .i64 0) (.int .i64 0) (.int .i64 0) (.slice none 0 0) (.int .i64 0) (.int .i64 0) (.int .i64 0) (.slice none 0 0);have J:(((((((((((w.setCell ⟨G,0,none⟩ (.int .i64 0)).setCell ⟨G,1,none⟩ (.int .i64 0)).setCell ⟨G,2,none⟩ (.slice none 0 0)).setCell ⟨G,3,none⟩ (.int .i64 0)).setCell ⟨G,4,none⟩ (.int .i64 0)).setCell ⟨G,5,none⟩ (.int .i64 0)).setCell ⟨G,6,none⟩ (.slice none 0 0)).setCell ⟨G,7,none⟩ (.int .i64 0)).setCell ⟨G,8,none⟩ (.int .i64 0)).setCell ⟨G,9,none⟩ (.int .i64 0)).setCell ⟨G,10,none⟩ (.slice none 0 0)).1[G]?=some (.cells #[.int .i64 0,.int .i64 0,.slice none 0 0,.int .i64 0,.int .i64 0,.int .i64 0,.slice none 0 0,.int .i64 0,.int .i64 0,.int .i64 0,.slice none 0 0] 67 (0,0)):=az o (.int .i64 0) (.int .i64 0) (.slice none 0 0) (.int .i64 0) (.int .i64 0) (.int .i64 0) (.slice none 0 0) (.int .i64 0) (.int .i64 0) (.int .i64 0) (.slice none 0 0)
 have K:(((((((((((w.setCell ⟨G,0,none⟩ (.int .i64 0)).setCell ⟨G,1,none⟩ (.int .i64 0)).setCell ⟨G,2,none⟩ (.slice none 0 0)).setCell ⟨G,3,none⟩ (.int .i64 0)).setCell ⟨G,4,none⟩ (.int .i64 0)).setCell ⟨G,5,none⟩ (.int .i64 0)).setCell ⟨G,6,none⟩ (.slice none 0 0)).setCell ⟨G,7,none⟩ (.int .i64 0)).setCell ⟨G,8,none⟩ (.int .i64 0)).setCell ⟨G,9,none⟩ (.int .i64 0)).setCell ⟨G,10,none⟩ (.slice none 0 0)).1[z]?=some (.cells #[.int .i64 y] 68 (0,0)):=(I.block z (au D) X).trans D;have M:Hid (W.1[G]?=some (.cells #[.int .i64 0,.int .i64 0,.slice none 0 0,.int .i64 0,.int .i64 0,.int .i64 0,.slice none 0 0,.int .i64 0,.int .i64 0,.int .i64 0,.slice none 0 0] 67 (0,0))):=by
  show _=_;rw[E,cz];exact((ag (((((((((((w.setCell ⟨G,0,none⟩ (.int .i64 0)).setCell ⟨G,1,none⟩ (.int .i64 0)).setCell ⟨G,2,none⟩ (.slice none 0 0)).setCell ⟨G,3,none⟩ (.int .i64 0)).setCell ⟨G,4,none⟩ (.int .i64 0)).setCell ⟨G,5,none⟩ (.int .i64 0)).setCell ⟨G,6,none⟩ (.slice none 0 0)).setCell ⟨G,7,none⟩ (.int .i64 0)).setCell ⟨G,8,none⟩ (.int .i64 0)).setCell ⟨G,9,none⟩ (.int .i64 0)).setCell ⟨G,10,none⟩ (.slice none 0 0)) z 0 (.int .i64 k)).block G (au J) L).trans J
 have O:Hid (W.1[z]?=some (.cells #[.int .i64 k] 68 (0,0))):=by
  show _=_;rw[E,cz];exact ai K 0 _
 have Q:Hid (Aside (fun i=>i=G∨i=z) w W):=by
  rw[E];exact((I.mono (fun _ _ h=>.inl h)).trans (ag _ z 0 _) (fun _ _ h=>.inr h)).drew
 have S:Hid (((((((((((((w.setCell ⟨G,0,none⟩ (.int .i64 0)).setCell ⟨G,1,none⟩ (.int .i64 0)).setCell ⟨G,2,none⟩ (.slice none 0 0)).setCell ⟨G,3,none⟩ (.int .i64 0)).setCell ⟨G,4,none⟩ (.int .i64 0)).setCell ⟨G,5,none⟩ (.int .i64 0)).setCell ⟨G,6,none⟩ (.slice none 0 0)).setCell ⟨G,7,none⟩ (.int .i64 0)).setCell ⟨G,8,none⟩ (.int .i64 0)).setCell ⟨G,9,none⟩ (.int .i64 0)).setCell ⟨G,10,none⟩ (.slice none 0 0)).setCell ⟨z,0,none⟩ (.int .i64 k)).drew=W):=by rw[E];exact rfl
 clear o D E I J K;refine callsD_of_wpS Tryz.func62 rfl fun V U Y=>?_;apply wpS_seq;apply wpS_region;simp[wpOpsS,go_sem,recoverD,Y,Tryz.ntmps62,Exit.thenS];refine wpS_of_wp ?_;go_wp2_with fail;go_region_law (fail)
 all_goals
  show bodyPostS Tryz.prog Tryz.f62 V U _ Exit.normal _ _ _;rw[S.out];simp[bodyPostS,results,Tryz.results62];exact⟨M.out,O.out,Q.out⟩
theorem mP(p q:Addr)(w:World):
  CallsD Tryz.prog 62 #[.pointer (some p),.pointer (some q)] .returning w fun e D w'=>e=.returned (.tuple #[])∧D=.returning∧w'=w:=by
 refine callsD_of_wpS Tryz.func62 rfl fun o E z=>?_;apply wpS_seq;apply wpS_region;simp[wpOpsS,go_sem,recoverD,z,Tryz.ntmps62,Exit.thenS];refine wpS_of_wp ?_;go_wp2_with fail;cases o
 simp_all [bodyPostS,results,Tryz.results62]
end
end Go.Proofs.YtbahfgdbjgkklaaGreatDoor
