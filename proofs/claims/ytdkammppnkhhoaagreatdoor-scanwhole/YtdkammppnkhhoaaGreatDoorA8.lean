import Derived.Test.YtdkammppnkhhoaaGreatDoorB24
set_option maxRecDepth 100000
set_option maxHeartbeats 8000000
namespace Go.Proofs.YtdkammppnkhhoaaGreatDoor
variable{B R:Nat}{W W' w w':World}{y:Int}{e:Ending}{f:Fr}
section
open Go.RowKit
def xS(w:World)(r:Except Nat L8)(e:Ending)(w':World):Prop:=match r with
 |.error k=>e=.returned (.tuple #[.slice none 0 0,.int .i64 (k:Nat)])∧Below w.1.size w w'
 |.ok b=>∃g o cap,e=.returned (.tuple #[.slice (some ⟨g,o,none⟩) b.length cap,.int .i64 0])∧At w' (some ⟨g,o,none⟩) b∧b.length<=cap∧w.1.size<=g∧Below w.1.size w w'
theorem uY(p:OA)(c:Nat)(l:L8)(co:l.length<=140737488351232)(cp:l.length<=c)(w:World)(b1:Hv w)(h:At w p l):
  Calls Tryz.prog 78 #[.slice p l.length c] w (xS w (Fr.open_ l)):=by
 obtain⟨r,a4⟩:∃r,r=Fr.open_ l:=⟨_,rfl⟩
 have V:Hid (r=if 2200<l.length then .error 2 else if (Cob.un l).1≠0 then .error (Cob.un l).1
  else if (Cob.un l).2.length<5 then .error 30
  else if (Cob.un l).2.drop ((Cob.un l).2.length-4)=Sch.le 4 (Crc.sum ((Cob.un l).2.take ((Cob.un l).2.length-4))) then .ok ((Cob.un l).2.take ((Cob.un l).2.length-4)) else .error 120):=a4
 rw[<-a4];clear a4;have M:=xX (rj p c l w co cp h);have b7:=xX b1;clear h b1;by_cases aj:2200<l.length
 ·have b8:(2200:Int)<(l.length:Int):=by omega
  have D:Hid (r=.error 2):=V.out.trans (if_pos aj);clear V aj;go_enter Tryz.func78,Tryz.ntmps78;go_wp2;go_ret2;rw[D.out];exact⟨rfl,xY⟩
 have b8:¬(2200:Int)<(l.length:Int):=by omega
 have J:=xX (V.out.trans (if_neg aj));have cs:=Cob.un_length l;unfold gG at M;obtain⟨U,b0⟩:∃U,U=(Cob.un l).1:=⟨_,rfl⟩;obtain⟨A,bX⟩:∃A,A=(Cob.un l).2:=⟨_,rfl⟩;rw[<-bX] at M cs J;rw[<-b0] at M J;clear V b0 bX;go_enter Tryz.func78,Tryz.ntmps78;go_wp2_with fail;refine M.out.mono ?_;rintro e w1 ⟨q,cap,rfl,bs,cj,bT,hb⟩;have L:=xX hb;have b4:=xX bs;have be:=xX bT;clear bs bT hb M;by_cases a2:U=0
 ·subst a2;have D:=xX (J.out.trans (if_neg (by omega)));clear J;by_cases K:A.length<5
  ·have ah:(A.length:Int)<5:=(by omega);have I:Hid (r=.error 30):=D.out.trans (if_pos K);clear D K;go_wp2;go_ret2;rw[I.out];exact⟨rfl,L.out⟩
  have ah:¬(A.length:Int)<5:=by omega
  have I:=xX (D.out.trans (if_neg K));clear D;obtain⟨g,z,rfl,ck,O⟩:=be.out (fun a1=>by rw[a1] at K;simp at K);obtain⟨o,ak⟩:∃o,A.length=o+4:=⟨A.length-4,by omega⟩;have bp:A.length-4=o:=by omega
  rw[bp] at I;obtain⟨b,hb⟩:∃b,b=A.take o:=⟨_,rfl⟩;obtain⟨s,X⟩:∃s,s=A.drop o:=⟨_,rfl⟩;have a0:b.length=o:=by rw[hb,List.length_take];omega
  have cq:s.length=4:=by rw[X,List.length_drop];omega
  have a9:Hid (At w1 (some ⟨g,z,none⟩) b):=by rw[hb];exact .inr ⟨g,z,rfl,O.1,dq O.2.1 o⟩
  have b6:Hid (At w1 (some ⟨g,z+o,none⟩) s):=by rw[X];exact .inr ⟨g,z+o,rfl,O.1,cu O.2.1 o⟩
  rw[<-hb,<-X] at I;have cv:(o:Int)<=2200:=by omega
  have b9:(o:Int)<=(A.length:Int):=by omega
  have ct:(o:Int)<=(cap:Int):=by omega
  have cb:((A.length:Nat):Int)-4=(o:Int):=by omega
  have bN:jE (some ⟨g,z,none⟩) cap=some ⟨g,z,none⟩:=by
   unfold jE;split
   ·rfl
   ·rw[Option.map_some,Lib.add_plain];rfl
  have bO:dI (some ⟨g,z,none⟩) o cap=some ⟨g,z+o,none⟩:=by
   unfold dI;rw[if_neg (by omega),Option.map_some,Lib.add_plain]
  have cw:∀w',(Instr.slice 22 (.slice (some ⟨g,z,none⟩) (o+4) cap) none (some (.int .i64 (o:Int))) none).run Tryz.prog w'=.ok (.slice (some ⟨g,z,none⟩) o cap) w':=fun w'=>by
   have:=jU (some ⟨g,z,none⟩) (o+4) cap o (by omega) w';rw[bN] at this;exact this
  have cx:∀w',(Instr.slice 22 (.slice (some ⟨g,z,none⟩) (o+4) cap) (some (.int .i64 (o:Int))) none none).run Tryz.prog w'=.ok (.slice (some ⟨g,z+o,none⟩) 4 (cap-o)) w':=fun w'=>by
   have:=dj (some ⟨g,z,none⟩) (o+4) cap o (by omega) w';rw[bO,Nat.add_sub_cancel_left] at this;exact this
  have bk:Hid (∀w',Below w1.1.size w1 w'->Calls Tryz.prog 73 #[.slice (some ⟨g,z,none⟩) o cap] w' fun e a7=>e=.returned (.slice (some ⟨w'.1.size,0,none⟩) 4 4)∧a7=w'.alloc (.cells (cellsOf (Sch.le 4 (Crc.sum b))).toArray 5)):=fun w' E=>by
   have:=rp (some ⟨g,z,none⟩) cap b (by omega) w' ((b7.out.next L.out).next E) (a9.out.on E);rw[a0] at this;exact this
  obtain⟨k,a3⟩:∃k,k=Sch.le 4 (Crc.sum b):=⟨_,rfl⟩;rw[<-a3] at bk I;have cn:k.length=4:=by rw[a3,Sch.le_len]
  have bd:Hid (∀w' W,Below w1.1.size w1 w'->W=w'.alloc (.cells (cellsOf k).toArray 5)->Calls Tryz.prog 107 #[.slice (some ⟨w'.1.size,0,none⟩) 4 4,.slice (some ⟨g,z+o,none⟩) 4 (cap-o)] W fun e a7=>e=.returned (.bool (k==s))∧a7=W):=fun w' W E bq=>by
   have ci:Below w1.1.size w1 W:=(by rw[bq];exact E.alloc E.size _);have:=wL (some ⟨w'.1.size,0,none⟩) (some ⟨g,z+o,none⟩) 4 (cap-o) k s W (by rw[bq];exact tw w' _ k rfl) (b6.out.on ci);rw[cn,cq] at this;exact this
  have bb:Hid (∀w' a6,Below w1.1.size w1 w'->Below w1.1.size w1 (w'.alloc a6)):=fun w' a6 E=>E.alloc E.size a6;obtain⟨t,a5⟩:∃t,t=(k==s):=⟨_,rfl⟩;rw[<-a5] at bd;have bl:=xX a5;have bj:=xX a0;rw[ak];rw[ak] at cj ah b9;clear a3 hb X O K be b4 a5 bp cb bN bO ak a0;go_wp2_with fail
  go_region_held3 (fun _=>True) (trivial) (first|(go_at_call 73;refine(bk.out _ (xY.drew)).mono ?_;rintro e cy ⟨rfl,b2⟩;have Z:=xX b2;clear b2)|(go_at_call 107;refine(bd.out w1.drew _ (xY.drew) Z.out).mono ?_;rintro e a8 ⟨rfl,b3⟩;have bn:=xX b3;clear b3)|fail)
  have bc:Hid (Below w.1.size w a8):=by
   rw[bn.out,Z.out];exact L.out.trans ((bb.out _ _ (xY.drew)).mono L.out.size)
  have b5:Hid (At a8 (some ⟨g,z,none⟩) b):=by
   have cc:Below w1.1.size w1 a8:=(by rw[bn.out,Z.out];exact bb.out _ _ (xY.drew));exact a9.out.on cc
  cases t with
  |false=>
   have Y:Hid (r=.error 120):=by
    show _=_;rw[I.out,if_neg];intro a1;have:=bl.out;rw[a1,beq_self_eq_true] at this;cases this
   go_wp2;go_ret2;rw[Y.out];exact⟨rfl,bc.out⟩
  |true=>
   have Y:Hid (r=.ok b):=by
    show _=_;have:=bl.out.symm;rw[beq_iff_eq] at this;rw[I.out,if_pos this.symm]
   go_wp2;go_ret2;rw[Y.out];exact⟨g,z,cap,by rw[bj.out];rfl,b5.out,by rw[bj.out];omega,ck,bc.out⟩
 ·have ah:((U:Int) != 0)=true:=by rw[bne_iff_ne];omega
  have D:Hid (r=.error U):=J.out.trans (if_pos a2);clear J a2;go_wp2;go_ret2;rw[D.out];exact⟨rfl,L.out⟩
end
section
open Go.RowKit
theorem xh(x:Value)(w:World):(Instr.typeAssert (.iface 122 x) 97 122 true).run Tryz.prog w=.ok (.tuple #[x,.bool true]) w:=by kernel_rfl
theorem xg(x:Value)(w:World):(Instr.typeAssert (.iface 122 x) 97 124 true).run Tryz.prog w=.ok (.tuple #[.agg #[.int .i64 0,.int .i64 0,.int .i64 0,.int .i64 0,.slice none 0 0],.bool false]) w:=by kernel_rfl
theorem xf(x:Value)(w:World):(Instr.typeAssert (.iface 122 x) 97 126 true).run Tryz.prog w=.ok (.tuple #[.agg #[.int .i64 0,.int .i64 0,.int .i64 0,.slice none 0 0],.bool false]) w:=by kernel_rfl
theorem xe(x:Value)(w:World):(Instr.typeAssert (.iface 124 x) 97 122 true).run Tryz.prog w=.ok (.tuple #[.agg #[.int .i64 0,.slice none 0 0],.bool false]) w:=by kernel_rfl
theorem xd(x:Value)(w:World):(Instr.typeAssert (.iface 124 x) 97 124 true).run Tryz.prog w=.ok (.tuple #[x,.bool true]) w:=by kernel_rfl
theorem wZ(x:Value)(w:World):(Instr.typeAssert (.iface 124 x) 97 126 true).run Tryz.prog w=.ok (.tuple #[.agg #[.int .i64 0,.int .i64 0,.int .i64 0,.slice none 0 0],.bool false]) w:=by kernel_rfl
theorem wY(x:Value)(w:World):(Instr.typeAssert (.iface 126 x) 97 122 true).run Tryz.prog w=.ok (.tuple #[.agg #[.int .i64 0,.slice none 0 0],.bool false]) w:=by kernel_rfl
theorem wW(x:Value)(w:World):(Instr.typeAssert (.iface 126 x) 97 124 true).run Tryz.prog w=.ok (.tuple #[.agg #[.int .i64 0,.int .i64 0,.int .i64 0,.int .i64 0,.slice none 0 0],.bool false]) w:=by kernel_rfl
theorem wV(x:Value)(w:World):(Instr.typeAssert (.iface 126 x) 97 126 true).run Tryz.prog w=.ok (.tuple #[x,.bool true]) w:=by kernel_rfl
theorem qu(n:Int)(sp:OA)(z o:Nat)(w:World):Calls Tryz.prog 80 #[.iface 122 (.agg #[.int .i64 n,.slice sp z o])] w fun e w'=>e=.returned (.agg #[.int .i64 1,.int .i64 n,.slice sp z o,.int .i64 0,.int .i64 0,.int .i64 0,.slice none 0 0,.int .i64 0,.int .i64 0,.int .i64 0,.slice none 0 0])∧Below w.1.size w w':=by
 have I:=xh (.agg #[.int .i64 n,.slice sp z o]);have J:=xg (.agg #[.int .i64 n,.slice sp z o]);have K:=xf (.agg #[.int .i64 n,.slice sp z o]);have E:Hid (∀A D,Below w.1.size w ((w.alloc A).alloc D)):=fun A D=>xV.alloc (by simp) _;go_enter Tryz.func80,Tryz.ntmps80;go_wp2;refine bodyPost_ret (v:=.agg #[.int .i64 1,.int .i64 n,.slice sp z o,.int .i64 0,.int .i64 0,.int .i64 0,.slice none 0 0,.int .i64 0,.int .i64 0,.int .i64 0,.slice none 0 0]) (results_cell_row rfl _ _ w.1.size _ _ _ _ rfl (aV w _ _) Tryz.underlying47 rfl (by kernel_rfl)) rfl ?_;exact⟨rfl,E.out _ _⟩
theorem qs(n q D r:Int)(A:OA)(z o:Nat)(w:World):Calls Tryz.prog 80 #[.iface 124 (.agg #[.int .i64 n,.int .i64 q,.int .i64 D,.int .i64 r,.slice A z o])] w fun e w'=>e=.returned (.agg #[.int .i64 2,.int .i64 n,.slice none 0 0,.int .i64 q,.int .i64 D,.int .i64 r,.slice A z o,.int .i64 0,.int .i64 0,.int .i64 0,.slice none 0 0])∧Below w.1.size w w':=by
 have K:=xe (.agg #[.int .i64 n,.int .i64 q,.int .i64 D,.int .i64 r,.slice A z o]);have L:=xd (.agg #[.int .i64 n,.int .i64 q,.int .i64 D,.int .i64 r,.slice A z o]);have M:=wZ (.agg #[.int .i64 n,.int .i64 q,.int .i64 D,.int .i64 r,.slice A z o]);have J:Hid (∀E I,Below w.1.size w ((w.alloc E).alloc I)):=fun E I=>xV.alloc (by simp) _;go_enter Tryz.func80,Tryz.ntmps80;go_wp2;refine bodyPost_ret (v:=.agg #[.int .i64 2,.int .i64 n,.slice none 0 0,.int .i64 q,.int .i64 D,.int .i64 r,.slice A z o,.int .i64 0,.int .i64 0,.int .i64 0,.slice none 0 0]) (results_cell_row rfl _ _ w.1.size _ _ _ _ rfl (aV w _ _) Tryz.underlying47 rfl (by kernel_rfl)) rfl ?_;exact⟨rfl,J.out _ _⟩
theorem qp(D E I:Int)(A:OA)(z o:Nat)(w:World):Calls Tryz.prog 80 #[.iface 126 (.agg #[.int .i64 D,.int .i64 E,.int .i64 I,.slice A z o])] w fun e w'=>e=.returned (.agg #[.int .i64 3,.int .i64 0,.slice none 0 0,.int .i64 0,.int .i64 0,.int .i64 0,.slice none 0 0,.int .i64 D,.int .i64 E,.int .i64 I,.slice A z o])∧Below w.1.size w w':=by
 have M:=wY (.agg #[.int .i64 D,.int .i64 E,.int .i64 I,.slice A z o]);have O:=wW (.agg #[.int .i64 D,.int .i64 E,.int .i64 I,.slice A z o]);have U:=wV (.agg #[.int .i64 D,.int .i64 E,.int .i64 I,.slice A z o]);have L:Hid (∀J K,Below w.1.size w ((w.alloc J).alloc K)):=fun J K=>xV.alloc (by simp) _;go_enter Tryz.func80,Tryz.ntmps80;go_wp2;refine bodyPost_ret (v:=.agg #[.int .i64 3,.int .i64 0,.slice none 0 0,.int .i64 0,.int .i64 0,.int .i64 0,.slice none 0 0,.int .i64 D,.int .i64 E,.int .i64 I,.slice A z o]) (results_cell_row rfl _ _ w.1.size _ _ _ _ rfl (aV w _ _) Tryz.underlying47 rfl (by kernel_rfl)) rfl ?_;exact⟨rfl,L.out _ _⟩
end
section
open Go.RowKit
def sR(B:Nat)(f:Fr)(v:Value)(w:World):Prop:=(f.kind=1∧∃x,v=.iface 122 x∧xw B f x w)∨(f.kind=2∧∃x,v=.iface 124 x∧xy B f x w)∨(f.kind=3∧∃x,v=.iface 126 x∧sQ B f x w)
theorem fC.good{V:Fr->Value->World->Prop}(h:fC w R (.ok f) V e w'):∃v,e=.returned v∧V f v w'∧Aside (fun i=>i=R) w w':=h
theorem fC.bad{k:Nat}{V:Fr->Value->World->Prop}(h:fC w R (.error k) V e w'):e=.panicked (ei k)∧Aside (fun i=>i=R) w w':=h
theorem qC(l:L8)(J R:Nat)(w:World)(h:cf w J R l):Calls Tryz.prog 81 #[.pointer (some ⟨R,0,none⟩),.int .i64 1] w (fC w R (Fr.rdS l) (sR w.1.size)):=by
 have o:=xX (ju l J R w h);obtain⟨r,D⟩:∃r,r=Fr.rdS l:=⟨_,rfl⟩;rw[<-D] at o ⊢;clear h;cases r with
 |error er=>
  clear D;go_enter Tryz.func81,Tryz.ntmps81;go_wp2_with fail;refine o.out.mono ?_;intro e w1 A;obtain⟨I,z⟩:=A.bad;subst I;have E:=xX z;clear A z o;go_wp2;exact⟨rfl,rfl,E.out⟩
 |ok f=>
  have L:Hid (f.kind=1):=by
   have:=(Fr.rdF_ok (k:=1) (l:=l) (f:=f) (by rw[D];rfl)).1;exact this
  clear D;go_enter Tryz.func81,Tryz.ntmps81;go_wp2_with fail;refine o.out.mono ?_;intro e w1 A;obtain⟨v,I,K,z⟩:=A.good;subst I;have E:=xX z;have M:=xX K;obtain⟨p,c,rfl,-⟩:=K;clear A z o;go_wp2;go_ret;exact⟨_,rfl,.inl ⟨L.out,_,rfl,M.out⟩,E.out⟩
theorem qB(l:L8)(J R:Nat)(w:World)(h:cf w J R l):Calls Tryz.prog 81 #[.pointer (some ⟨R,0,none⟩),.int .i64 2] w (fC w R (Fr.rdD l) (sR w.1.size)):=by
 have o:=xX (mI l J R w h);obtain⟨r,D⟩:∃r,r=Fr.rdD l:=⟨_,rfl⟩;rw[<-D] at o ⊢;clear h;cases r with
 |error er=>
  clear D;go_enter Tryz.func81,Tryz.ntmps81;go_wp2_with fail;refine o.out.mono ?_;intro e w1 A;obtain⟨I,z⟩:=A.bad;subst I;have E:=xX z;clear A z o;go_wp2;exact⟨rfl,rfl,E.out⟩
 |ok f=>
  have L:Hid (f.kind=2):=by
   have:=(Fr.rdF_ok (k:=2) (l:=l) (f:=f) (by rw[D];rfl)).1;exact this
  clear D;go_enter Tryz.func81,Tryz.ntmps81;go_wp2_with fail;refine o.out.mono ?_;intro e w1 A;obtain⟨v,I,K,z⟩:=A.good;subst I;have E:=xX z;have M:=xX K;obtain⟨p,c,rfl,-⟩:=K;clear A z o;go_wp2;go_ret;exact⟨_,rfl,.inr (.inl ⟨L.out,_,rfl,M.out⟩),E.out⟩
theorem qA(l:L8)(J R:Nat)(w:World)(h:cf w J R l):Calls Tryz.prog 81 #[.pointer (some ⟨R,0,none⟩),.int .i64 3] w (fC w R (Fr.rdI l) (sR w.1.size)):=by
 have o:=xX (kL l J R w h);obtain⟨r,D⟩:∃r,r=Fr.rdI l:=⟨_,rfl⟩;rw[<-D] at o ⊢;clear h;cases r with
 |error er=>
  clear D;go_enter Tryz.func81,Tryz.ntmps81;go_wp2_with fail;refine o.out.mono ?_;intro e w1 A;obtain⟨I,z⟩:=A.bad;subst I;have E:=xX z;clear A z o;go_wp2;exact⟨rfl,rfl,E.out⟩
 |ok f=>
  have L:Hid (f.kind=3):=by
   have:=(Fr.rdF_ok (k:=3) (l:=l) (f:=f) (by rw[D];rfl)).1;exact this
  clear D;go_enter Tryz.func81,Tryz.ntmps81;go_wp2_with fail;refine o.out.mono ?_;intro e w1 A;obtain⟨v,I,K,z⟩:=A.good;subst I;have E:=xX z;have M:=xX K;obtain⟨p,c,rfl,-⟩:=K;clear A z o;go_wp2;go_ret;exact⟨_,rfl,.inr (.inr ⟨L.out,_,rfl,M.out⟩),E.out⟩
theorem qD(k:Int)(o:k≠1)(z:k≠2)(A:k≠3)(R:Nat)(w:World):Calls Tryz.prog 81 #[.pointer (some ⟨R,0,none⟩),.int .i64 k] w (fC w R (.error 60) (sR w.1.size)):=by
 have D:(k==1)=false:=aK o;have E:(k==2)=false:=aK z;have I:(k==3)=false:=aK A;clear o z A;go_enter Tryz.func81,Tryz.ntmps81;go_wp2;exact⟨rfl,rfl,Aside.refl _ _⟩
theorem uK(k:Nat)(l:L8)(o R:Nat)(w:World)(h:cf w o R l):Calls Tryz.prog 81 #[.pointer (some ⟨R,0,none⟩),.int .i64 k] w (fC w R (Fr.rdF k l) (sR w.1.size)):=by
 unfold Fr.rdF;by_cases z:k=1
 ·subst z;rw[if_pos rfl];exact qC l o R w h
 rw[if_neg z];by_cases A:k=2
 ·subst A;rw[if_pos rfl];exact qB l o R w h
 rw[if_neg A];by_cases D:k=3
 ·subst D;rw[if_pos rfl];exact qA l o R w h
 rw[if_neg D];exact qD k (by omega) (by omega) (by omega) R w
end
section
open Go.RowKit
theorem bY(w:World):w.drew.1=w.1:=rfl
def cJ:AV:=#[.int .i64 0,.int .i64 0,.slice none 0 0,.int .i64 0,.int .i64 0,.int .i64 0,.slice none 0 0,.int .i64 0,.int .i64 0,.int .i64 0,.slice none 0 0]
def cA(w:World)(g:Nat)(c0 c1 c2 c3 c4 c5 c6 c7 c8 c9 c10:Value):World:=((((((((((w.setCell ⟨g,0,none⟩ c0).setCell ⟨g,1,none⟩ c1).setCell ⟨g,2,none⟩ c2).setCell ⟨g,3,none⟩ c3).setCell ⟨g,4,none⟩ c4).setCell ⟨g,5,none⟩ c5).setCell ⟨g,6,none⟩ c6).setCell ⟨g,7,none⟩ c7).setCell ⟨g,8,none⟩ c8).setCell ⟨g,9,none⟩ c9).setCell ⟨g,10,none⟩ c10
theorem aA{g:Nat}{T:TypeId}{a8 Z Y X U O L K I E A:Value}(h:w.1[g]?=some (.cells #[a8,Z,Y,X,U,O,L,K,I,E,A] T (0,0)))(c0 c1 c2 c3 c4 o z D J M V:Value):(cA w g c0 c1 c2 c3 c4 o z D J M V).1[g]?=some (.cells #[c0,c1,c2,c3,c4,o,z,D,J,M,V] T (0,0)):=by
 have ah:(w.setCell ⟨g,0,none⟩ c0).1[g]?=some (.cells #[c0,Z,Y,X,U,O,L,K,I,E,A] T (0,0)):=an h 0 _;have aj:((w.setCell ⟨g,0,none⟩ c0).setCell ⟨g,1,none⟩ c1).1[g]?=some (.cells #[c0,c1,Y,X,U,O,L,K,I,E,A] T (0,0)):=an ah 1 _;have a0:(((w.setCell ⟨g,0,none⟩ c0).setCell ⟨g,1,none⟩ c1).setCell ⟨g,2,none⟩ c2).1[g]?=some (.cells #[c0,c1,c2,X,U,O,L,K,I,E,A] T (0,0)):=an aj 2 _;have a1:((((w.setCell ⟨g,0,none⟩ c0).setCell ⟨g,1,none⟩ c1).setCell ⟨g,2,none⟩ c2).setCell ⟨g,3,none⟩ c3).1[g]?=some (.cells #[c0,c1,c2,c3,U,O,L,K,I,E,A] T (0,0)):=an a0 3 _;have a2:(((((w.setCell ⟨g,0,none⟩ c0).setCell ⟨g,1,none⟩ c1).setCell ⟨g,2,none⟩ c2).setCell ⟨g,3,none⟩ c3).setCell ⟨g,4,none⟩ c4).1[g]?=some (.cells #[c0,c1,c2,c3,c4,O,L,K,I,E,A] T (0,0)):=an a1 4 _;have a3:((((((w.setCell ⟨g,0,none⟩ c0).setCell ⟨g,1,none⟩ c1).setCell ⟨g,2,none⟩ c2).setCell ⟨g,3,none⟩ c3).setCell ⟨g,4,none⟩ c4).setCell ⟨g,5,none⟩ o).1[g]?=some (.cells #[c0,c1,c2,c3,c4,o,L,K,I,E,A] T (0,0)):=an a2 5 _;have a4:(((((((w.setCell ⟨g,0,none⟩ c0).setCell ⟨g,1,none⟩ c1).setCell ⟨g,2,none⟩ c2).setCell ⟨g,3,none⟩ c3).setCell ⟨g,4,none⟩ c4).setCell ⟨g,5,none⟩ o).setCell ⟨g,6,none⟩ z).1[g]?=some (.cells #[c0,c1,c2,c3,c4,o,z,K,I,E,A] T (0,0)):=an a3 6 _;have a5:((((((((w.setCell ⟨g,0,none⟩ c0).setCell ⟨g,1,none⟩ c1).setCell ⟨g,2,none⟩ c2).setCell ⟨g,3,none⟩ c3).setCell ⟨g,4,none⟩ c4).setCell ⟨g,5,none⟩ o).setCell ⟨g,6,none⟩ z).setCell ⟨g,7,none⟩ D).1[g]?=some (.cells #[c0,c1,c2,c3,c4,o,z,D,I,E,A] T (0,0)):=an a4 7 _
 have a6:(((((((((w.setCell ⟨g,0,none⟩ c0).setCell ⟨g,1,none⟩ c1).setCell ⟨g,2,none⟩ c2).setCell ⟨g,3,none⟩ c3).setCell ⟨g,4,none⟩ c4).setCell ⟨g,5,none⟩ o).setCell ⟨g,6,none⟩ z).setCell ⟨g,7,none⟩ D).setCell ⟨g,8,none⟩ J).1[g]?=some (.cells #[c0,c1,c2,c3,c4,o,z,D,J,E,A] T (0,0)):=an a5 8 _;have a7:((((((((((w.setCell ⟨g,0,none⟩ c0).setCell ⟨g,1,none⟩ c1).setCell ⟨g,2,none⟩ c2).setCell ⟨g,3,none⟩ c3).setCell ⟨g,4,none⟩ c4).setCell ⟨g,5,none⟩ o).setCell ⟨g,6,none⟩ z).setCell ⟨g,7,none⟩ D).setCell ⟨g,8,none⟩ J).setCell ⟨g,9,none⟩ M).1[g]?=some (.cells #[c0,c1,c2,c3,c4,o,z,D,J,M,A] T (0,0)):=an a6 9 _;have ak:(((((((((((w.setCell ⟨g,0,none⟩ c0).setCell ⟨g,1,none⟩ c1).setCell ⟨g,2,none⟩ c2).setCell ⟨g,3,none⟩ c3).setCell ⟨g,4,none⟩ c4).setCell ⟨g,5,none⟩ o).setCell ⟨g,6,none⟩ z).setCell ⟨g,7,none⟩ D).setCell ⟨g,8,none⟩ J).setCell ⟨g,9,none⟩ M).setCell ⟨g,10,none⟩ V).1[g]?=some (.cells #[c0,c1,c2,c3,c4,o,z,D,J,M,V] T (0,0)):=an a7 10 _;exact ak
theorem ay(w:World)(g:Nat)(c0 c1 c2 c3 c4 z A D E I o:Value):Aside (fun i=>i=g) w (cA w g c0 c1 c2 c3 c4 z A D E I o):=(((((((((((ai w g 0 _).trans (ai _ g 1 _) (fun _ _ h=>h)).trans (ai _ g 2 _) (fun _ _ h=>h)).trans (ai _ g 3 _) (fun _ _ h=>h)).trans (ai _ g 4 _) (fun _ _ h=>h)).trans (ai _ g 5 _) (fun _ _ h=>h)).trans (ai _ g 6 _) (fun _ _ h=>h)).trans (ai _ g 7 _) (fun _ _ h=>h)).trans (ai _ g 8 _) (fun _ _ h=>h)).trans (ai _ g 9 _) (fun _ _ h=>h)).trans (ai _ g 10 _) (fun _ _ h=>h))
structure bm(w W:World)(y:Int):Prop where
 b0:W.1[w.1.size]?=some (.cells #[.int .i64 0,.int .i64 0,.slice none 0 0,.int .i64 0,.int .i64 0,.int .i64 0,.slice none 0 0,.int .i64 0,.int .i64 0,.int .i64 0,.slice none 0 0] 47 (0,0))
 b1:W.1[w.1.size+1]?=some (.cells #[.int .i64 y] 29 (0,0))
 size:w.1.size+2<=W.1.size
 below:Below w.1.size w W
theorem fg(w:World):bm w ((w.alloc (.cells #[.int .i64 0,.int .i64 0,.slice none 0 0,.int .i64 0,.int .i64 0,.int .i64 0,.slice none 0 0,.int .i64 0,.int .i64 0,.int .i64 0,.slice none 0 0] 47)).alloc (.cells #[.int .i64 0] 29)) 0 :=
 ⟨aV w _ _,bG w _ _,by simp,xV.alloc (by simp) _⟩
theorem bm.on(h:bm w W y)(hb:Below W.1.size W W'):bm w W' y:=by
 have o:=h.size;exact⟨(hb.block _ (by omega)).trans h.b0,(hb.block _ (by omega)).trans h.b1,Nat.le_trans o hb.size,h.below.trans (hb.mono (by omega))⟩
theorem bm.step(h:bm w W y)(o:Aside (fun i=>i=R) W W')(A:w.1.size+2<=R):bm w W' y:=by
 have z:=h.size;exact⟨(o.block _ (by omega) (by omega)).trans h.b0,(o.block _ (by omega) (by omega)).trans h.b1,Nat.le_trans z o.size,h.below.trans (o.below (by omega) (fun k D=>by omega))⟩
theorem bm.setE(h:bm w W y)(z:Int):bm w (W.setCell ⟨w.1.size+1,0,none⟩ (.int .i64 z)) z:=by
 have A:=h.size;have o:Aside (fun i=>i=w.1.size+1) W (W.setCell ⟨w.1.size+1,0,none⟩ (.int .i64 z)):=ai _ _ _ _;exact⟨(o.block _ (by omega) (by omega)).trans h.b0,an h.b1 0 _,Nat.le_trans A o.size,h.below.trans (o.below (by omega) (fun k D=>by omega))⟩
theorem bm.drew(h:bm w W y):bm w W.drew y:=⟨h.b0,h.b1,h.size,h.below.drew⟩
theorem kz(k:Int)(w:World):(Instr.typeAssert (.iface 29 (.int .i64 k)) 20 29 false).run Tryz.prog w=.ok (.int .i64 k) w:=by kernel_rfl
theorem fX(G z:Nat)(k:Int)(y:Int)(w:World)(o:w.1[G]?=some (.cells #[.int .i64 0,.int .i64 0,.slice none 0 0,.int .i64 0,.int .i64 0,.int .i64 0,.slice none 0 0,.int .i64 0,.int .i64 0,.int .i64 0,.slice none 0 0] 47 (0,0)))(A:w.1[z]?=some (.cells #[.int .i64 y] 29 (0,0)))(K:G≠z):
  CallsD Tryz.prog 79 #[.pointer (some ⟨G,0,none⟩),.pointer (some ⟨z,0,none⟩)] (.panicking [{ v:=.iface 29 (.int .i64 k),recovered:=false }]) w fun e ah w'=>
   e=.returned (.tuple #[])∧ah=.panicking [{ v:=.iface 29 (.int .i64 k),recovered:=true }]∧w'.1[G]?=some (.cells #[.int .i64 0,.int .i64 0,.slice none 0 0,.int .i64 0,.int .i64 0,.int .i64 0,.slice none 0 0,.int .i64 0,.int .i64 0,.int .i64 0,.slice none 0 0] 47 (0,0))∧w'.1[z]?=some (.cells #[.int .i64 k] 29 (0,0))∧Aside (fun i=>i=G∨i=z) w w':=by
 have aj:=kz k;have ak:w.cell? ⟨G,0,none⟩=some (.int .i64 0):=aa o 0;have bb:=ab o 0;have a0:w.cell? ⟨G,1,none⟩=some (.int .i64 0):=aa o 1;have bc:=ab o 1;have a2:w.cell? ⟨G,2,none⟩=some (.slice none 0 0):=aa o 2;have be:=ab o 2;have a3:w.cell? ⟨G,3,none⟩=some (.int .i64 0):=aa o 3;have bj:=ab o 3;have a4:w.cell? ⟨G,4,none⟩=some (.int .i64 0):=aa o 4;have bk:=ab o 4;have a5:w.cell? ⟨G,5,none⟩=some (.int .i64 0):=aa o 5;have bl:=ab o 5;have a6:w.cell? ⟨G,6,none⟩=some (.slice none 0 0):=aa o 6;have bn:=ab o 6;have a7:w.cell? ⟨G,7,none⟩=some (.int .i64 0):=aa o 7;have bp:=ab o 7;have a8:w.cell? ⟨G,8,none⟩=some (.int .i64 0):=aa o 8;have bq:=ab o 8;have a9:w.cell? ⟨G,9,none⟩=some (.int .i64 0):=aa o 9;have bs:=ab o 9;have a1:w.cell? ⟨G,10,none⟩=some (.slice none 0 0):=aa o 10;have bd:=ab o 10;have bN:w.cell? ⟨z,0,none⟩=some (.int .i64 y):=aa A 0;have bO:=ab A 0;have Y:z≠G:=fun h=>K h.symm;obtain⟨W,D⟩:∃W,W=((((((((((((w.setCell ⟨G,0,none⟩ (.int .i64 0)).setCell ⟨G,1,none⟩ (.int .i64 0)).setCell ⟨G,2,none⟩ (.slice none 0 0)).setCell ⟨G,3,none⟩ (.int .i64 0)).setCell ⟨G,4,none⟩ (.int .i64 0)).setCell ⟨G,5,none⟩ (.int .i64 0)).setCell ⟨G,6,none⟩ (.slice none 0 0)).setCell ⟨G,7,none⟩ (.int .i64 0)).setCell ⟨G,8,none⟩ (.int .i64 0)).setCell ⟨G,9,none⟩ (.int .i64 0)).setCell ⟨G,10,none⟩ (.slice none 0 0)).setCell ⟨z,0,none⟩ (.int .i64 k)).drew:=⟨_,rfl⟩
 have E:Aside (fun i=>i=G) w (((((((((((w.setCell ⟨G,0,none⟩ (.int .i64 0)).setCell ⟨G,1,none⟩ (.int .i64 0)).setCell ⟨G,2,none⟩ (.slice none 0 0)).setCell ⟨G,3,none⟩ (.int .i64 0)).setCell ⟨G,4,none⟩ (.int .i64 0)).setCell ⟨G,5,none⟩ (.int .i64 0)).setCell ⟨G,6,none⟩ (.slice none 0 0)).setCell ⟨G,7,none⟩ (.int .i64 0)).setCell ⟨G,8,none⟩ (.int .i64 0)).setCell ⟨G,9,none⟩ (.int .i64 0)).setCell ⟨G,10,none⟩ (.slice none 0 0)):=ay w G (.int .i64 0) (.int .i64 0) (.slice none 0 0) (.int .i64 0) (.int .i64 0) (.int .i64 0) (.slice none 0 0) (.int .i64 0) (.int .i64 0) (.int .i64 0) (.slice none 0 0);have I:(((((((((((w.setCell ⟨G,0,none⟩ (.int .i64 0)).setCell ⟨G,1,none⟩ (.int .i64 0)).setCell ⟨G,2,none⟩ (.slice none 0 0)).setCell ⟨G,3,none⟩ (.int .i64 0)).setCell ⟨G,4,none⟩ (.int .i64 0)).setCell ⟨G,5,none⟩ (.int .i64 0)).setCell ⟨G,6,none⟩ (.slice none 0 0)).setCell ⟨G,7,none⟩ (.int .i64 0)).setCell ⟨G,8,none⟩ (.int .i64 0)).setCell ⟨G,9,none⟩ (.int .i64 0)).setCell ⟨G,10,none⟩ (.slice none 0 0)).1[G]?=some (.cells #[.int .i64 0,.int .i64 0,.slice none 0 0,.int .i64 0,.int .i64 0,.int .i64 0,.slice none 0 0,.int .i64 0,.int .i64 0,.int .i64 0,.slice none 0 0] 47 (0,0)):=aA o (.int .i64 0) (.int .i64 0) (.slice none 0 0) (.int .i64 0) (.int .i64 0) (.int .i64 0) (.slice none 0 0) (.int .i64 0) (.int .i64 0) (.int .i64 0) (.slice none 0 0)
 have J:(((((((((((w.setCell ⟨G,0,none⟩ (.int .i64 0)).setCell ⟨G,1,none⟩ (.int .i64 0)).setCell ⟨G,2,none⟩ (.slice none 0 0)).setCell ⟨G,3,none⟩ (.int .i64 0)).setCell ⟨G,4,none⟩ (.int .i64 0)).setCell ⟨G,5,none⟩ (.int .i64 0)).setCell ⟨G,6,none⟩ (.slice none 0 0)).setCell ⟨G,7,none⟩ (.int .i64 0)).setCell ⟨G,8,none⟩ (.int .i64 0)).setCell ⟨G,9,none⟩ (.int .i64 0)).setCell ⟨G,10,none⟩ (.slice none 0 0)).1[z]?=some (.cells #[.int .i64 y] 29 (0,0)):=(E.block z (az A) Y).trans A;have L:Hid (W.1[G]?=some (.cells #[.int .i64 0,.int .i64 0,.slice none 0 0,.int .i64 0,.int .i64 0,.int .i64 0,.slice none 0 0,.int .i64 0,.int .i64 0,.int .i64 0,.slice none 0 0] 47 (0,0))):=by
  show _=_;rw[D,bY];exact((ai (((((((((((w.setCell ⟨G,0,none⟩ (.int .i64 0)).setCell ⟨G,1,none⟩ (.int .i64 0)).setCell ⟨G,2,none⟩ (.slice none 0 0)).setCell ⟨G,3,none⟩ (.int .i64 0)).setCell ⟨G,4,none⟩ (.int .i64 0)).setCell ⟨G,5,none⟩ (.int .i64 0)).setCell ⟨G,6,none⟩ (.slice none 0 0)).setCell ⟨G,7,none⟩ (.int .i64 0)).setCell ⟨G,8,none⟩ (.int .i64 0)).setCell ⟨G,9,none⟩ (.int .i64 0)).setCell ⟨G,10,none⟩ (.slice none 0 0)) z 0 (.int .i64 k)).block G (az I) K).trans I
 have M:Hid (W.1[z]?=some (.cells #[.int .i64 k] 29 (0,0))):=by
  show _=_;rw[D,bY];exact an J 0 _
 have O:Hid (Aside (fun i=>i=G∨i=z) w W):=by
  rw[D];exact((E.mono (fun _ _ h=>.inl h)).trans (ai _ z 0 _) (fun _ _ h=>.inr h)).drew
 have U:Hid (((((((((((((w.setCell ⟨G,0,none⟩ (.int .i64 0)).setCell ⟨G,1,none⟩ (.int .i64 0)).setCell ⟨G,2,none⟩ (.slice none 0 0)).setCell ⟨G,3,none⟩ (.int .i64 0)).setCell ⟨G,4,none⟩ (.int .i64 0)).setCell ⟨G,5,none⟩ (.int .i64 0)).setCell ⟨G,6,none⟩ (.slice none 0 0)).setCell ⟨G,7,none⟩ (.int .i64 0)).setCell ⟨G,8,none⟩ (.int .i64 0)).setCell ⟨G,9,none⟩ (.int .i64 0)).setCell ⟨G,10,none⟩ (.slice none 0 0)).setCell ⟨z,0,none⟩ (.int .i64 k)).drew=W):=by rw[D];exact rfl
 clear o A D E I J;refine callsD_of_wpS Tryz.func79 rfl fun X V Z=>?_;apply wpS_seq;apply wpS_region;simp[wpOpsS,go_sem,recoverD,Z,Tryz.ntmps79,Exit.thenS];refine wpS_of_wp ?_;go_wp2_with fail;go_region_law (fail)
 all_goals
  show bodyPostS Tryz.prog Tryz.f79 X V _ Exit.normal _ _ _;rw[U.out];simp[bodyPostS,results,Tryz.results79];exact⟨L.out,M.out,O.out⟩
theorem lf(p q:Addr)(w:World):
  CallsD Tryz.prog 79 #[.pointer (some p),.pointer (some q)] .returning w fun e A w'=>e=.returned (.tuple #[])∧A=.returning∧w'=w:=by
 refine callsD_of_wpS Tryz.func79 rfl fun o D z=>?_;apply wpS_seq;apply wpS_region;simp[wpOpsS,go_sem,recoverD,z,Tryz.ntmps79,Exit.thenS];refine wpS_of_wp ?_;go_wp2_with fail;cases o
 simp_all [bodyPostS,results,Tryz.results79]
end
section
open Go.RowKit
section
variable {P:Program} {Q:Exit->Act->World->Prop}
def tu(Q:Exit->Act->World->Prop):Exit->Act->World->Prop
 |.panic _,_,_=>False
 |e,a,w=>Q e a w
theorem jH(a:Act)(w:World):tu Q .normal a w=Q .normal a w:=rfl
theorem pt{c:Code}{a:Act}(h:c.wp P (tu Q) a w):c.wp P Q a w:=Code.wp_mono (fun e a w o=>by cases e <;> first | exact o | exact o.elim) h
end
def jQ(w:World)(r:Except Nat Fr)(e:Ending)(w':World):Prop:=match r with
 |.error k=>e=.returned (.tuple #[.agg #[.int .i64 0,.int .i64 0,.slice none 0 0,.int .i64 0,.int .i64 0,.int .i64 0,.slice none 0 0,.int .i64 0,.int .i64 0,.int .i64 0,.slice none 0 0],.int .i64 (k:Nat)])∧Below w.1.size w w'
 |.ok f=>∃u,e=.returned (.tuple #[.agg u,.int .i64 0])∧cT w' w.1.size u f∧Below w.1.size w w'
theorem oR{l:L8}{e:Nat}(h:Fr.open_ l=.error e):e≠0:=by
 unfold Fr.open_ at h;split at h
 ·injection h with h;omega
 ·split at h
  ·next h1=>injection h with h;rw[<-h];exact h1
  ·split at h
   ·injection h with h;omega
   ·split at h
    ·cases h
    ·injection h with h;omega
theorem mC{sp:OA}{A:Nat}(L:Fr.norm f=f)(D:f.kind=1)(M:cS W B #[.slice sp f.cols.length A] f.cols)(K:w.1.size<=B):cT W w.1.size #[.int .i64 1,.int .i64 f.number,.slice sp f.cols.length A,.int .i64 0,.int .i64 0,.int .i64 0,.slice none 0 0,.int .i64 0,.int .i64 0,.int .i64 0,.slice none 0 0] f:=by
 have e:f={ Fr0 with kind:=1,number:=f.number,cols:=f.cols.map Col.fix }:=by
  have:=L;unfold Fr.norm at this;rw[if_pos D] at this;exact this.symm
 have E:f.seq=0:=by rw[e];rfl
 have I:f.first=0:=by rw[e];rfl
 have J:f.rows=0:=by rw[e];rfl
 have o:f.block=[]:=by rw[e];rfl
 have z:f.index=lq:=by rw[e];rfl
 refine⟨sp,A,none,0,none,0,?_,fF M K,?_,?_,?_,?_⟩
 ·unfold aB;rw[D,E,I,J,o,z];rfl
 ·rw[o];exact aI _ _
 ·rw[o];decide
 ·rw[z];exact dn _ _
 ·rw[z];decide
theorem mD{z:OA}{o:Nat}(J:Fr.norm f=f)(E:f.kind=2)(L:Has W B (.slice z f.block.length o) f.block)(K:f.block.length<=2200)(I:w.1.size<=B):cT W w.1.size #[.int .i64 2,.int .i64 f.number,.slice none 0 0,.int .i64 f.seq,.int .i64 f.first,.int .i64 f.rows,.slice z f.block.length o,.int .i64 0,.int .i64 0,.int .i64 0,.slice none 0 0] f:=by
 have e:f={ Fr0 with kind:=2,number:=f.number,seq:=f.seq,first:=f.first,rows:=f.rows,block:=f.block }:=by
  have:=J;unfold Fr.norm at this;rw[if_neg (by omega),if_pos E] at this;exact this.symm
 have D:f.cols=[]:=by rw[e];rfl
 have A:f.index=lq:=by rw[e];rfl
 refine⟨none,0,z,o,none,0,?_,?_,L.lower I,K,?_,?_⟩
 ·unfold aB;rw[E,D,A];rfl
 ·rw[D];exact iM _ _
 ·rw[A];exact dn _ _
 ·rw[A];decide
theorem sY{A:OA}{z:Nat}(O:Fr.norm f=f)(L:f.kind=3)(V:bv W B (.slice A f.index.entries.length z) f.index.entries)(U:f.index.entries.length<=64)(M:w.1.size<=B):cT W w.1.size #[.int .i64 3,.int .i64 0,.slice none 0 0,.int .i64 0,.int .i64 0,.int .i64 0,.slice none 0 0,.int .i64 f.index.at_,.int .i64 f.index.frames,.int .i64 f.index.rows,.slice A f.index.entries.length z] f:=by
 have e:f={ Fr0 with kind:=3,index:=f.index }:=by
  have:=O;unfold Fr.norm at this;rw[if_neg (by omega),if_neg (by omega)] at this;exact this.symm
 have E:f.number=0:=by rw[e];rfl
 have I:f.seq=0:=by rw[e];rfl
 have J:f.first=0:=by rw[e];rfl
 have K:f.rows=0:=by rw[e];rfl
 have o:f.block=[]:=by rw[e];rfl
 have D:f.cols=[]:=by rw[e];rfl
 refine⟨none,0,none,0,A,z,?_,?_,?_,?_,V.low M,U⟩
 ·unfold aB;rw[L,E,I,J,K,o,D];rfl
 ·rw[D];exact iM _ _
 ·rw[o];exact aI _ _
 ·rw[o];decide
theorem nW{w4:World}(J:bm w w4 0)(c0 c1 c2 c3 c4 z A D E I o:Value):((((((((((((w4.setCell ⟨w.1.size,0,none⟩ (c0)).setCell ⟨w.1.size,1,none⟩ (c1)).setCell ⟨w.1.size,2,none⟩ (c2)).setCell ⟨w.1.size,3,none⟩ (c3)).setCell ⟨w.1.size,4,none⟩ (c4)).setCell ⟨w.1.size,5,none⟩ (z)).setCell ⟨w.1.size,6,none⟩ (A)).setCell ⟨w.1.size,7,none⟩ (D)).setCell ⟨w.1.size,8,none⟩ (E)).setCell ⟨w.1.size,9,none⟩ (I)).setCell ⟨w.1.size,10,none⟩ (o)).setCell ⟨w.1.size+1,0,none⟩ (.int .i64 0)).1[w.1.size]?=some (.cells #[c0,c1,c2,c3,c4,z,A,D,E,I,o] 47 (0,0))∧((((((((((((w4.setCell ⟨w.1.size,0,none⟩ (c0)).setCell ⟨w.1.size,1,none⟩ (c1)).setCell ⟨w.1.size,2,none⟩ (c2)).setCell ⟨w.1.size,3,none⟩ (c3)).setCell ⟨w.1.size,4,none⟩ (c4)).setCell ⟨w.1.size,5,none⟩ (z)).setCell ⟨w.1.size,6,none⟩ (A)).setCell ⟨w.1.size,7,none⟩ (D)).setCell ⟨w.1.size,8,none⟩ (E)).setCell ⟨w.1.size,9,none⟩ (I)).setCell ⟨w.1.size,10,none⟩ (o)).setCell ⟨w.1.size+1,0,none⟩ (.int .i64 0)).cell? ⟨w.1.size+1,0,none⟩=some (.int .i64 0)∧Aside (fun i=>i=w.1.size∨i=w.1.size+1) w4 ((((((((((((w4.setCell ⟨w.1.size,0,none⟩ (c0)).setCell ⟨w.1.size,1,none⟩ (c1)).setCell ⟨w.1.size,2,none⟩ (c2)).setCell ⟨w.1.size,3,none⟩ (c3)).setCell ⟨w.1.size,4,none⟩ (c4)).setCell ⟨w.1.size,5,none⟩ (z)).setCell ⟨w.1.size,6,none⟩ (A)).setCell ⟨w.1.size,7,none⟩ (D)).setCell ⟨w.1.size,8,none⟩ (E)).setCell ⟨w.1.size,9,none⟩ (I)).setCell ⟨w.1.size,10,none⟩ (o)).setCell ⟨w.1.size+1,0,none⟩ (.int .i64 0))∧Below w.1.size w ((((((((((((w4.setCell ⟨w.1.size,0,none⟩ (c0)).setCell ⟨w.1.size,1,none⟩ (c1)).setCell ⟨w.1.size,2,none⟩ (c2)).setCell ⟨w.1.size,3,none⟩ (c3)).setCell ⟨w.1.size,4,none⟩ (c4)).setCell ⟨w.1.size,5,none⟩ (z)).setCell ⟨w.1.size,6,none⟩ (A)).setCell ⟨w.1.size,7,none⟩ (D)).setCell ⟨w.1.size,8,none⟩ (E)).setCell ⟨w.1.size,9,none⟩ (I)).setCell ⟨w.1.size,10,none⟩ (o)).setCell ⟨w.1.size+1,0,none⟩ (.int .i64 0)):=by
 have X:=J.size;have K:Aside (fun i=>i=w.1.size) w4 (((((((((((w4.setCell ⟨w.1.size,0,none⟩ (c0)).setCell ⟨w.1.size,1,none⟩ (c1)).setCell ⟨w.1.size,2,none⟩ (c2)).setCell ⟨w.1.size,3,none⟩ (c3)).setCell ⟨w.1.size,4,none⟩ (c4)).setCell ⟨w.1.size,5,none⟩ (z)).setCell ⟨w.1.size,6,none⟩ (A)).setCell ⟨w.1.size,7,none⟩ (D)).setCell ⟨w.1.size,8,none⟩ (E)).setCell ⟨w.1.size,9,none⟩ (I)).setCell ⟨w.1.size,10,none⟩ (o)):=ay w4 w.1.size c0 c1 c2 c3 c4 z A D E I o;have O:(((((((((((w4.setCell ⟨w.1.size,0,none⟩ (c0)).setCell ⟨w.1.size,1,none⟩ (c1)).setCell ⟨w.1.size,2,none⟩ (c2)).setCell ⟨w.1.size,3,none⟩ (c3)).setCell ⟨w.1.size,4,none⟩ (c4)).setCell ⟨w.1.size,5,none⟩ (z)).setCell ⟨w.1.size,6,none⟩ (A)).setCell ⟨w.1.size,7,none⟩ (D)).setCell ⟨w.1.size,8,none⟩ (E)).setCell ⟨w.1.size,9,none⟩ (I)).setCell ⟨w.1.size,10,none⟩ (o)).1[w.1.size]?=some (.cells #[c0,c1,c2,c3,c4,z,A,D,E,I,o] 47 (0,0)):=aA J.b0 c0 c1 c2 c3 c4 z A D E I o;have U:(((((((((((w4.setCell ⟨w.1.size,0,none⟩ (c0)).setCell ⟨w.1.size,1,none⟩ (c1)).setCell ⟨w.1.size,2,none⟩ (c2)).setCell ⟨w.1.size,3,none⟩ (c3)).setCell ⟨w.1.size,4,none⟩ (c4)).setCell ⟨w.1.size,5,none⟩ (z)).setCell ⟨w.1.size,6,none⟩ (A)).setCell ⟨w.1.size,7,none⟩ (D)).setCell ⟨w.1.size,8,none⟩ (E)).setCell ⟨w.1.size,9,none⟩ (I)).setCell ⟨w.1.size,10,none⟩ (o)).1[w.1.size+1]?=some (.cells #[.int .i64 0] 29 (0,0)):=(K.block _ (az J.b1) (by omega)).trans J.b1
 have L:=ai (((((((((((w4.setCell ⟨w.1.size,0,none⟩ (c0)).setCell ⟨w.1.size,1,none⟩ (c1)).setCell ⟨w.1.size,2,none⟩ (c2)).setCell ⟨w.1.size,3,none⟩ (c3)).setCell ⟨w.1.size,4,none⟩ (c4)).setCell ⟨w.1.size,5,none⟩ (z)).setCell ⟨w.1.size,6,none⟩ (A)).setCell ⟨w.1.size,7,none⟩ (D)).setCell ⟨w.1.size,8,none⟩ (E)).setCell ⟨w.1.size,9,none⟩ (I)).setCell ⟨w.1.size,10,none⟩ (o)) (w.1.size+1) 0 (.int .i64 0);have M:=(K.mono (G:=fun i=>i=w.1.size∨i=w.1.size+1) (fun _ _ h=>.inl h)).trans L (fun _ _ h=>.inr h);exact⟨(L.block _ (az O) (by omega)).trans O,aa (an U 0 _) 0,M,J.below.trans (M.below (by omega) (fun k V=>by omega))⟩
end
section
open Go.RowKit
theorem mH(z:Nat)(p:OA)(c:Nat)(l:L8)(a5:l.length<=140737488351232)(a6:l.length<=c)(w:World)(aj:Hv w)(h:At w p l)(L:Fr.open_ l=.error z):
  Calls Tryz.prog 55 #[.slice p l.length c] w (jQ w (Fr.dec l)):=by
 have bb:∀(fn:Fn) (first cap:AV) (w:World),(Instr.makeFunc fn first cap).run Tryz.prog w=.ok (.func fn first cap) w:=fun _ _ _ _=>rfl;obtain⟨r,K⟩:∃r,r=Fr.dec l:=⟨_,rfl⟩
 have Y:Hid (r=match Fr.open_ l with
  |.error e=>.error e
  |.ok b=>Fr.rdF (b.headD 0).toNat b.tail):=K
 have ak:=xX K;rw[<-K];obtain⟨E,X⟩:∃E,E=(w.alloc (.cells #[.int .i64 0,.int .i64 0,.slice none 0 0,.int .i64 0,.int .i64 0,.int .i64 0,.slice none 0 0,.int .i64 0,.int .i64 0,.int .i64 0,.slice none 0 0] 47)).alloc (.cells #[.int .i64 0] 29):=⟨_,rfl⟩;have J:Hid (bm w E 0):=by rw[X];exact fg w
 have Z:Hid ((w.alloc (.cells #[.int .i64 0,.int .i64 0,.slice none 0 0,.int .i64 0,.int .i64 0,.int .i64 0,.slice none 0 0,.int .i64 0,.int .i64 0,.int .i64 0,.slice none 0 0] 47)).alloc (.cells #[.int .i64 0] 29)=E):=by rw[X];exact rfl
 have M:=xX (uY p c l a5 a6 E (aj.next J.out.below) (h.on J.out.below));clear K X aj h;rw[L] at M;have a7:=oR L;have a8:((z:Int) != 0)=true:=by rw[bne_iff_ne];omega
 have a3:Hid (r=.error z):=by show _=_;rw[Y.out,L]
 clear L Y a7 ak
 go_enter_defers Tryz.func55,Tryz.ntmps55
 go_wp2_with fail;rw[Z.out];refine M.out.mono ?_;rintro e w1 ⟨rfl,hb⟩;have o:=J.out.on hb;have bd:w1.cell? ⟨w.1.size,0,none⟩=some (.int .i64 0):=aa o.b0 0;have bT:=ab o.b0 0;have be:w1.cell? ⟨w.1.size,1,none⟩=some (.int .i64 0):=aa o.b0 1;have bX:=ab o.b0 1;have bk:w1.cell? ⟨w.1.size,2,none⟩=some (.slice none 0 0):=aa o.b0 2;have b3:=ab o.b0 2;have bl:w1.cell? ⟨w.1.size,3,none⟩=some (.int .i64 0):=aa o.b0 3;have b4:=ab o.b0 3;have bn:w1.cell? ⟨w.1.size,4,none⟩=some (.int .i64 0):=aa o.b0 4;have b5:=ab o.b0 4;have bp:w1.cell? ⟨w.1.size,5,none⟩=some (.int .i64 0):=aa o.b0 5;have b6:=ab o.b0 5;have bq:w1.cell? ⟨w.1.size,6,none⟩=some (.slice none 0 0):=aa o.b0 6;have b7:=ab o.b0 6;have bs:w1.cell? ⟨w.1.size,7,none⟩=some (.int .i64 0):=aa o.b0 7;have b8:=ab o.b0 7;have bN:w1.cell? ⟨w.1.size,8,none⟩=some (.int .i64 0):=aa o.b0 8;have b9:=ab o.b0 8;have bO:w1.cell? ⟨w.1.size,9,none⟩=some (.int .i64 0):=aa o.b0 9;have cb:=ab o.b0 9;have bj:w1.cell? ⟨w.1.size,10,none⟩=some (.slice none 0 0):=aa o.b0 10;have b2:=ab o.b0 10;have cc:w1.cell? ⟨w.1.size+1,0,none⟩=some (.int .i64 0):=aa o.b1 0;have ci:=ab o.b1 0;have D:=o.setE z
 obtain⟨A,I⟩:∃A,A=(((((((((((((w1.setCell ⟨w.1.size+1,0,none⟩ (.int .i64 z)).setCell ⟨w.1.size,0,none⟩ (.int .i64 0)).setCell ⟨w.1.size,1,none⟩ (.int .i64 0)).setCell ⟨w.1.size,2,none⟩ (.slice none 0 0)).setCell ⟨w.1.size,3,none⟩ (.int .i64 0)).setCell ⟨w.1.size,4,none⟩ (.int .i64 0)).setCell ⟨w.1.size,5,none⟩ (.int .i64 0)).setCell ⟨w.1.size,6,none⟩ (.slice none 0 0)).setCell ⟨w.1.size,7,none⟩ (.int .i64 0)).setCell ⟨w.1.size,8,none⟩ (.int .i64 0)).setCell ⟨w.1.size,9,none⟩ (.int .i64 0)).setCell ⟨w.1.size,10,none⟩ (.slice none 0 0)).setCell ⟨w.1.size+1,0,none⟩ (.int .i64 z)).drew:=⟨_,rfl⟩;have O:Aside (fun i=>i=w.1.size) (w1.setCell ⟨w.1.size+1,0,none⟩ (.int .i64 z)) ((((((((((((w1.setCell ⟨w.1.size+1,0,none⟩ (.int .i64 z)).setCell ⟨w.1.size,0,none⟩ (.int .i64 0)).setCell ⟨w.1.size,1,none⟩ (.int .i64 0)).setCell ⟨w.1.size,2,none⟩ (.slice none 0 0)).setCell ⟨w.1.size,3,none⟩ (.int .i64 0)).setCell ⟨w.1.size,4,none⟩ (.int .i64 0)).setCell ⟨w.1.size,5,none⟩ (.int .i64 0)).setCell ⟨w.1.size,6,none⟩ (.slice none 0 0)).setCell ⟨w.1.size,7,none⟩ (.int .i64 0)).setCell ⟨w.1.size,8,none⟩ (.int .i64 0)).setCell ⟨w.1.size,9,none⟩ (.int .i64 0)).setCell ⟨w.1.size,10,none⟩ (.slice none 0 0)):=ay _ w.1.size (.int .i64 0) (.int .i64 0) (.slice none 0 0) (.int .i64 0) (.int .i64 0) (.int .i64 0) (.slice none 0 0) (.int .i64 0) (.int .i64 0) (.int .i64 0) (.slice none 0 0)
 have V:((((((((((((w1.setCell ⟨w.1.size+1,0,none⟩ (.int .i64 z)).setCell ⟨w.1.size,0,none⟩ (.int .i64 0)).setCell ⟨w.1.size,1,none⟩ (.int .i64 0)).setCell ⟨w.1.size,2,none⟩ (.slice none 0 0)).setCell ⟨w.1.size,3,none⟩ (.int .i64 0)).setCell ⟨w.1.size,4,none⟩ (.int .i64 0)).setCell ⟨w.1.size,5,none⟩ (.int .i64 0)).setCell ⟨w.1.size,6,none⟩ (.slice none 0 0)).setCell ⟨w.1.size,7,none⟩ (.int .i64 0)).setCell ⟨w.1.size,8,none⟩ (.int .i64 0)).setCell ⟨w.1.size,9,none⟩ (.int .i64 0)).setCell ⟨w.1.size,10,none⟩ (.slice none 0 0)).1[w.1.size]?=some (.cells #[.int .i64 0,.int .i64 0,.slice none 0 0,.int .i64 0,.int .i64 0,.int .i64 0,.slice none 0 0,.int .i64 0,.int .i64 0,.int .i64 0,.slice none 0 0] 47 (0,0)):=aA D.b0 (.int .i64 0) (.int .i64 0) (.slice none 0 0) (.int .i64 0) (.int .i64 0) (.int .i64 0) (.slice none 0 0) (.int .i64 0) (.int .i64 0) (.int .i64 0) (.slice none 0 0);have ah:((((((((((((w1.setCell ⟨w.1.size+1,0,none⟩ (.int .i64 z)).setCell ⟨w.1.size,0,none⟩ (.int .i64 0)).setCell ⟨w.1.size,1,none⟩ (.int .i64 0)).setCell ⟨w.1.size,2,none⟩ (.slice none 0 0)).setCell ⟨w.1.size,3,none⟩ (.int .i64 0)).setCell ⟨w.1.size,4,none⟩ (.int .i64 0)).setCell ⟨w.1.size,5,none⟩ (.int .i64 0)).setCell ⟨w.1.size,6,none⟩ (.slice none 0 0)).setCell ⟨w.1.size,7,none⟩ (.int .i64 0)).setCell ⟨w.1.size,8,none⟩ (.int .i64 0)).setCell ⟨w.1.size,9,none⟩ (.int .i64 0)).setCell ⟨w.1.size,10,none⟩ (.slice none 0 0)).1[w.1.size+1]?=some (.cells #[.int .i64 z] 29 (0,0)):=(O.block _ (az D.b1) (by omega)).trans D.b1
 have U:=ai ((((((((((((w1.setCell ⟨w.1.size+1,0,none⟩ (.int .i64 z)).setCell ⟨w.1.size,0,none⟩ (.int .i64 0)).setCell ⟨w.1.size,1,none⟩ (.int .i64 0)).setCell ⟨w.1.size,2,none⟩ (.slice none 0 0)).setCell ⟨w.1.size,3,none⟩ (.int .i64 0)).setCell ⟨w.1.size,4,none⟩ (.int .i64 0)).setCell ⟨w.1.size,5,none⟩ (.int .i64 0)).setCell ⟨w.1.size,6,none⟩ (.slice none 0 0)).setCell ⟨w.1.size,7,none⟩ (.int .i64 0)).setCell ⟨w.1.size,8,none⟩ (.int .i64 0)).setCell ⟨w.1.size,9,none⟩ (.int .i64 0)).setCell ⟨w.1.size,10,none⟩ (.slice none 0 0)) (w.1.size+1) 0 (.int .i64 z);have a0:Hid (A.1[w.1.size]?=some (.cells #[.int .i64 0,.int .i64 0,.slice none 0 0,.int .i64 0,.int .i64 0,.int .i64 0,.slice none 0 0,.int .i64 0,.int .i64 0,.int .i64 0,.slice none 0 0] 47 (0,0))):=by
  show _=_;rw[I,bY];exact(U.block _ (az V) (by omega)).trans V
 have a1:Hid (A.cell? ⟨w.1.size+1,0,none⟩=some (.int .i64 z)):=by
  have:A.1[w.1.size+1]?=some (.cells #[.int .i64 z] 29 (0,0)):=by rw[I,bY];exact an ah 0 _
  exact aa this 0
 have a2:Hid (Below w.1.size w A):=by
  have bc:=D.size;rw[I];exact(D.below.trans (((O.mono (G:=fun i=>i=w.1.size∨i=w.1.size+1) (fun _ _ h=>.inl h)).trans U (fun _ _ h=>.inr h)).below (by omega) (fun k a9=>by omega))).drew
 have a4:Hid ((((((((((((((w1.setCell ⟨w.1.size+1,0,none⟩ (.int .i64 z)).setCell ⟨w.1.size,0,none⟩ (.int .i64 0)).setCell ⟨w.1.size,1,none⟩ (.int .i64 0)).setCell ⟨w.1.size,2,none⟩ (.slice none 0 0)).setCell ⟨w.1.size,3,none⟩ (.int .i64 0)).setCell ⟨w.1.size,4,none⟩ (.int .i64 0)).setCell ⟨w.1.size,5,none⟩ (.int .i64 0)).setCell ⟨w.1.size,6,none⟩ (.slice none 0 0)).setCell ⟨w.1.size,7,none⟩ (.int .i64 0)).setCell ⟨w.1.size,8,none⟩ (.int .i64 0)).setCell ⟨w.1.size,9,none⟩ (.int .i64 0)).setCell ⟨w.1.size,10,none⟩ (.slice none 0 0)).setCell ⟨w.1.size+1,0,none⟩ (.int .i64 z)).drew=A):=by rw[I];exact rfl
 clear o D hb I O V ah U M J Z;go_wp2_with fail;refine pt ?_;go_region_law (fail)
 all_goals
  rw[jH];rw[a4.out];go_wp2;refine⟨_,bo rfl _ _ w.1.size (w.1.size+1) _ #[.int .i64 0,.int .i64 0,.slice none 0 0,.int .i64 0,.int .i64 0,.int .i64 0,.slice none 0 0,.int .i64 0,.int .i64 0,.int .i64 0,.slice none 0 0] _ _ (z:Int) rfl a0.out Tryz.underlying47 rfl (by kernel_rfl) rfl a1.out Tryz.underlying29,?_⟩;rw[a3.out];exact⟨rfl,a2.out⟩
end
section
open Go.RowKit
theorem ov(b:L8)(p:OA)(c:Nat)(l:L8)(eC:l.length<=140737488351232)(eL:l.length<=c)(w:World)(bl:Hv w)(h:At w p l)(bn:Fr.open_ l=.ok b):
  Calls Tryz.prog 55 #[.slice p l.length c] w (jQ w (Fr.dec l)):=by
 have e8:∀(fn:Fn) (first cap:AV) (w:World),(Instr.makeFunc fn first cap).run Tryz.prog w=.ok (.func fn first cap) w:=fun _ _ _ _=>rfl;obtain⟨r,bk⟩:∃r,r=Fr.dec l:=⟨_,rfl⟩
 have b9:Hid (r=match Fr.open_ l with
  |.error e=>.error e
  |.ok b=>Fr.rdF (b.headD 0).toNat b.tail):=bk
 have e3:=xX bk;rw[<-bk];obtain⟨a5,bN⟩:∃a5,a5=(w.alloc (.cells #[.int .i64 0,.int .i64 0,.slice none 0 0,.int .i64 0,.int .i64 0,.int .i64 0,.slice none 0 0,.int .i64 0,.int .i64 0,.int .i64 0,.slice none 0 0] 47)).alloc (.cells #[.int .i64 0] 29):=⟨_,rfl⟩;have bd:Hid (bm w a5 0):=by rw[bN];exact fg w
 have en:Hid ((w.alloc (.cells #[.int .i64 0,.int .i64 0,.slice none 0 0,.int .i64 0,.int .i64 0,.int .i64 0,.slice none 0 0,.int .i64 0,.int .i64 0,.int .i64 0,.slice none 0 0] 47)).alloc (.cells #[.int .i64 0] 29)=a5):=by rw[bN];exact rfl
 have bs:=xX (uY p c l eC eL a5 (bl.next bd.out.below) (h.on bd.out.below))
 -- a panic that goes through the door
 have b7:Hid (∀(X:Nat) (D:World) (y:Int),r=.error X->bm w D y->∀(tmps:AV) (V:List Deferred),tmps.getD 2 undef=.pointer (some ⟨w.1.size,0,none⟩)->tmps.getD 3 undef=.pointer (some ⟨w.1.size+1,0,none⟩)->V=[{ target:=.fn (.func 79) #[.pointer (some ⟨w.1.size,0,none⟩),.pointer (some ⟨w.1.size+1,0,none⟩)],args:=#[] }]->bodyPostD Tryz.prog Tryz.f55 (jQ w r) (Exit.panic (ei X)) { tmps:=tmps,defers:=V } D):=by
  intro X D y Y be tmps V a6 a7 b2;subst b2;refine leaves_cons (f:=79) (args:=#[.pointer (some ⟨w.1.size,0,none⟩),.pointer (some ⟨w.1.size+1,0,none⟩)]) (by simp) (by simp[go_sem]) ?_;refine(fX w.1.size (w.1.size+1) X y D be.b0 be.b1 (by omega)).mono ?_;rintro e e0 e1 ⟨rfl,rfl,Z,ah,aj⟩;refine⟨_,bo rfl tmps _ w.1.size (w.1.size+1) _ #[.int .i64 0,.int .i64 0,.slice none 0 0,.int .i64 0,.int .i64 0,.int .i64 0,.slice none 0 0,.int .i64 0,.int .i64 0,.int .i64 0,.slice none 0 0] _ _ (X:Int) a6 Z Tryz.underlying47 rfl (by kernel_rfl) a7 (aa ah 0) Tryz.underlying29,?_⟩;rw[Y];exact⟨rfl,be.below.trans (aj.below (by have:=be.size;omega) (fun k z=>by omega))⟩
 -- the way out without one
 have bq:Hid (∀(ak:World) (u:AV) (f:Fr),r=.ok f->ak.1[w.1.size]?=some (.cells u 47 (0,0))->u.size=11->ak.cell? ⟨w.1.size+1,0,none⟩=some (.int .i64 0)->cT ak w.1.size u f->Below w.1.size w ak->∀(tmps:AV) (V:List Deferred),tmps.getD 2 undef=.pointer (some ⟨w.1.size,0,none⟩)->tmps.getD 3 undef=.pointer (some ⟨w.1.size+1,0,none⟩)->V=[{ target:=.fn (.func 79) #[.pointer (some ⟨w.1.size,0,none⟩),.pointer (some ⟨w.1.size+1,0,none⟩)],args:=#[] }]->bodyPostD Tryz.prog Tryz.f55 (jQ w r) Exit.ret { tmps:=tmps,defers:=V } ak):=by
  intro ak u f Y ew eU er eu eq tmps V a6 a7 b2;subst b2;refine leaves_cons (f:=79) (args:=#[.pointer (some ⟨w.1.size,0,none⟩),.pointer (some ⟨w.1.size+1,0,none⟩)]) (by simp) (by simp[go_sem]) ?_;refine(lf ⟨w.1.size,0,none⟩ ⟨w.1.size+1,0,none⟩ _).mono ?_;rintro e e0 e1 ⟨rfl,rfl,rfl⟩;refine⟨_,bo rfl tmps _ w.1.size (w.1.size+1) _ u _ _ 0 a6 ew Tryz.underlying47 rfl (by rw[eU];kernel_rfl) a7 er Tryz.underlying29,?_⟩;rw[Y];exact⟨u,rfl,eu,eq⟩
 clear bk bN bl h;rw[bn] at bs;obtain⟨e7,c6,ct⟩:=Fr.open_ok bn;obtain⟨x,t,rfl⟩:∃x t,b=x::t:=by
  cases b with
  |nil=>simp at ct
  |cons x t=>exact⟨x,t,rfl⟩
 have a4:Hid (r=Fr.rdF x.toNat t):=by show _=_;rw[b9.out,bn];rfl
 have eS:t.length<=2200:=by
  have O:=(Cob.stuff_length (Fr.check (x::t))).1;rw[c6,Fr.check_length,List.length_cons] at O;omega
 have fr:=x.toNat_lt;clear bn b9 c6 ct
 go_enter_defers Tryz.func55,Tryz.ntmps55
 go_wp2_with fail;rw[en.out];refine bs.out.mono ?_;rintro e w1 ⟨g,I,cap,rfl,bT,cv,e6,hb⟩;have a8:=bd.out.on hb;have fi:=a8.size;have fx:w1.cell? ⟨w.1.size+1,0,none⟩=some (.int .i64 0):=aa a8.b1 0;have fy:=ab a8.b1 0;have cq:=a8.setE 0;have fo:=bd.out.size;obtain⟨e4,e5,b4,cx,cw⟩:=aL bT (by simp);injection b4 with b4;injection b4 with hgo1 hgo2;subst hgo1 hgo2;have e2:w1.cell? ⟨g,I,none⟩=some (.int .u8 (x.toNat:Int)):=cw 0 (by simp);rw[List.length_cons] at cv;have fv:∀w',(Instr.slice 22 (.slice (some ⟨g,I,none⟩) (t.length+1) cap) (some (.int .i64 1)) none none).run Tryz.prog w'=.ok (.slice (dI (some ⟨g,I,none⟩) 1 cap) t.length (cap-1)) w':=fun w'=>by
  have:=dj (some ⟨g,I,none⟩) (t.length+1) cap 1 (by omega) w';rw[Nat.add_sub_cancel] at this;exact this
 obtain⟨D,a9⟩:∃D,D=(w1.setCell ⟨w.1.size+1,0,none⟩ (.int .i64 0)).alloc (.cells #[.slice (dI (some ⟨g,I,none⟩) 1 cap) t.length (cap-1)] 129):=⟨_,rfl⟩;have c5:(w1.setCell ⟨w.1.size+1,0,none⟩ (.int .i64 0)).1.size=w1.1.size:=by simp[World.setCell]
 have bX:Below (w1.setCell ⟨w.1.size+1,0,none⟩ (.int .i64 0)).1.size (w1.setCell ⟨w.1.size+1,0,none⟩ (.int .i64 0)) D:=by rw[a9];exact xV
 have b8:Hid (bm w D 0):=cq.on bX;have fs:D.1.size=w1.1.size+1:=by rw[a9];simp[c5]
 have bO:Aside (fun i=>i=w.1.size+1) w1 D:=by
  have O:=ai w1 (w.1.size+1) 0 (.int .i64 0);exact O.trans (ae bX (fun i=>i=w.1.size+1)) (fun _ _ h=>h)
 have f0:D.cell? ⟨g,I,none⟩=some (.int .u8 (x.toNat:Int)):=(bO.cell (p:=⟨g,I,none⟩) cx (by show ¬g=_;omega)).trans e2;have cs:At D (some ⟨g,I,none⟩) (x::t):=bT.aside bO (fun b I A=>by injection A with A;injection A with hp1 _;omega);have cb:Hid (cf D w1.1.size w1.1.size t):=by
  refine⟨⟨dI (some ⟨g,I,none⟩) 1 cap,cap-1,?_,?_,by omega,fun _=>fA (fun a K=>by injection K with K;rw[<-K];exact cx)⟩,eS,xZ⟩
  ·rw[a9];have:=ag (w1.setCell ⟨w.1.size+1,0,none⟩ (.int .i64 0)) (.cells #[.slice (dI (some ⟨g,I,none⟩) 1 cap) t.length (cap-1)] 129);rw[c5] at this;exact this
  ·have:=cs.cut 1 cap (by simpa using cv);simpa using this
 have bc:=xX (uK x.toNat t w1.1.size w1.1.size D cb.out);obtain⟨b6,b5⟩:∃b6,b6=Fr.rdF x.toNat t:=⟨_,rfl⟩;rw[<-b5] at bc a4;have cc:=xX b5;have ep:Hid ((w1.setCell ⟨w.1.size+1,0,none⟩ (.int .i64 0)).alloc (.cells #[.slice (dI (some ⟨g,I,none⟩) 1 cap) t.length (cap-1)] 129)=D):=by rw[a9];exact rfl
 rw[List.length_cons];clear a8 cq hb bT cw cs bO bX a9 bs b5;go_wp2_with fail;rw[ep.out];refine bc.out.mono ?_;intro e bp bj;cases b6 with
 |error X=>
  obtain⟨Y,K⟩:=bj.bad;subst Y;have a1:=xX (b8.out.step K (by omega));clear bj K bc;go_wp2;exact b7.out X bp _ a4.out a1.out _ _ rfl rfl rfl
 |ok f=>
  obtain⟨v,Y,bl,K⟩:=bj.good;subst Y;obtain⟨-,-,E,L,J,-⟩:=Fr.rdF_ok cc.out.symm;have a1:=xX (b8.out.step K (by omega));have e9:=K.size;clear bj K bc cc b7 cb;rcases bl with ⟨z,c8,rfl,A⟩ | ⟨z,c8,rfl,A⟩ | ⟨z,c8,rfl,A⟩
  ·obtain⟨sp,c7,rfl,A⟩:=A;have U:=xX A;have M:=xX (qu f.number sp f.cols.length c7 bp);have a3:=xX (And.intro z (And.intro E (And.intro L J)));clear A z E L J;go_wp2_with fail;refine M.out.mono ?_;rintro e w4 ⟨rfl,hb⟩;have o:=a1.out.on hb;have a0:=xX hb;have cy:=hb.size;have c9:w4.cell? ⟨w.1.size,0,none⟩=some (.int .i64 0):=aa o.b0 0;have d4:=ab o.b0 0;have dd:w4.cell? ⟨w.1.size,1,none⟩=some (.int .i64 0):=aa o.b0 1;have d5:=ab o.b0 1;have dp:w4.cell? ⟨w.1.size,2,none⟩=some (.slice none 0 0):=aa o.b0 2;have d7:=ab o.b0 2;have dr:w4.cell? ⟨w.1.size,3,none⟩=some (.int .i64 0):=aa o.b0 3;have d8:=ab o.b0 3;have ds:w4.cell? ⟨w.1.size,4,none⟩=some (.int .i64 0):=aa o.b0 4;have d9:=ab o.b0 4;have dv:w4.cell? ⟨w.1.size,5,none⟩=some (.int .i64 0):=aa o.b0 5;have ea:=ab o.b0 5;have d0:w4.cell? ⟨w.1.size,6,none⟩=some (.slice none 0 0):=aa o.b0 6;have eb:=ab o.b0 6;have d1:w4.cell? ⟨w.1.size,7,none⟩=some (.int .i64 0):=aa o.b0 7;have ec:=ab o.b0 7;have d2:w4.cell? ⟨w.1.size,8,none⟩=some (.int .i64 0):=aa o.b0 8;have el:=ab o.b0 8;have d3:w4.cell? ⟨w.1.size,9,none⟩=some (.int .i64 0):=aa o.b0 9;have em:=ab o.b0 9;have df:w4.cell? ⟨w.1.size,10,none⟩=some (.slice none 0 0):=aa o.b0 10;have d6:=ab o.b0 10;have ck:w4.cell? ⟨w.1.size+1,0,none⟩=some (.int .i64 0):=aa o.b1 0;have co:=ab o.b1 0;have a2:=xX (nW o (.int .i64 1) (.int .i64 f.number) (.slice sp f.cols.length c7) (.int .i64 0) (.int .i64 0) (.int .i64 0) (.slice none 0 0) (.int .i64 0) (.int .i64 0) (.int .i64 0) (.slice none 0 0));clear hb o M
   go_wp2;obtain⟨Z,ah,aj,bb⟩:=a2.out;obtain⟨z,E,L,J⟩:=a3.out;exact bq.out _ _ f a4.out Z rfl ah (mC J z (gw (gw U.out (ae a0.out (fun i=>i=w.1.size∨i=w.1.size+1)) (fun _ O a6 a7=>by omega)) aj (fun _ O a6 a7=>by omega)) (by omega)) bb _ _ rfl rfl rfl
  ·obtain⟨cj,ci,rfl,A⟩:=A;have U:=xX A;have M:=xX (qs f.number f.seq f.first f.rows cj f.block.length ci bp);have a3:=xX (And.intro z (And.intro E (And.intro L J)));clear A z E L J;go_wp2_with fail;refine M.out.mono ?_;rintro e w4 ⟨rfl,hb⟩;have o:=a1.out.on hb;have a0:=xX hb;have cy:=hb.size;have c9:w4.cell? ⟨w.1.size,0,none⟩=some (.int .i64 0):=aa o.b0 0;have d4:=ab o.b0 0;have dd:w4.cell? ⟨w.1.size,1,none⟩=some (.int .i64 0):=aa o.b0 1;have d5:=ab o.b0 1;have dp:w4.cell? ⟨w.1.size,2,none⟩=some (.slice none 0 0):=aa o.b0 2;have d7:=ab o.b0 2;have dr:w4.cell? ⟨w.1.size,3,none⟩=some (.int .i64 0):=aa o.b0 3;have d8:=ab o.b0 3;have ds:w4.cell? ⟨w.1.size,4,none⟩=some (.int .i64 0):=aa o.b0 4;have d9:=ab o.b0 4;have dv:w4.cell? ⟨w.1.size,5,none⟩=some (.int .i64 0):=aa o.b0 5;have ea:=ab o.b0 5;have d0:w4.cell? ⟨w.1.size,6,none⟩=some (.slice none 0 0):=aa o.b0 6;have eb:=ab o.b0 6;have d1:w4.cell? ⟨w.1.size,7,none⟩=some (.int .i64 0):=aa o.b0 7;have ec:=ab o.b0 7;have d2:w4.cell? ⟨w.1.size,8,none⟩=some (.int .i64 0):=aa o.b0 8;have el:=ab o.b0 8;have d3:w4.cell? ⟨w.1.size,9,none⟩=some (.int .i64 0):=aa o.b0 9;have em:=ab o.b0 9;have df:w4.cell? ⟨w.1.size,10,none⟩=some (.slice none 0 0):=aa o.b0 10;have d6:=ab o.b0 10;have ck:w4.cell? ⟨w.1.size+1,0,none⟩=some (.int .i64 0):=aa o.b1 0;have co:=ab o.b1 0
   have a2:=xX (nW o (.int .i64 2) (.int .i64 f.number) (.slice none 0 0) (.int .i64 f.seq) (.int .i64 f.first) (.int .i64 f.rows) (.slice cj f.block.length ci) (.int .i64 0) (.int .i64 0) (.int .i64 0) (.slice none 0 0));clear hb o M;go_wp2;obtain⟨Z,ah,aj,bb⟩:=a2.out;obtain⟨z,E,L,J⟩:=a3.out;have b3:f.block.length<=2200:=by
    have O:=congrArg List.length L;unfold Fr.fields at O;rw[if_neg (by omega),if_pos z,List.length_append] at O;omega
   exact bq.out _ _ f a4.out Z rfl ah (mD J z ((U.out.on a0.out).aside aj (fun k z ez=>by have:=(U.out.lt k z).1;omega)) b3 (by omega)) bb _ _ rfl rfl rfl
  ·obtain⟨cp,cn,rfl,A⟩:=A;have U:=xX A;have M:=xX (qp f.index.at_ f.index.frames f.index.rows cp f.index.entries.length cn bp);have a3:=xX (And.intro z (And.intro E (And.intro L J)));clear A z E L J;go_wp2_with fail;refine M.out.mono ?_;rintro e w4 ⟨rfl,hb⟩;have o:=a1.out.on hb;have a0:=xX hb;have cy:=hb.size;have c9:w4.cell? ⟨w.1.size,0,none⟩=some (.int .i64 0):=aa o.b0 0;have d4:=ab o.b0 0;have dd:w4.cell? ⟨w.1.size,1,none⟩=some (.int .i64 0):=aa o.b0 1;have d5:=ab o.b0 1;have dp:w4.cell? ⟨w.1.size,2,none⟩=some (.slice none 0 0):=aa o.b0 2;have d7:=ab o.b0 2;have dr:w4.cell? ⟨w.1.size,3,none⟩=some (.int .i64 0):=aa o.b0 3;have d8:=ab o.b0 3;have ds:w4.cell? ⟨w.1.size,4,none⟩=some (.int .i64 0):=aa o.b0 4;have d9:=ab o.b0 4;have dv:w4.cell? ⟨w.1.size,5,none⟩=some (.int .i64 0):=aa o.b0 5;have ea:=ab o.b0 5;have d0:w4.cell? ⟨w.1.size,6,none⟩=some (.slice none 0 0):=aa o.b0 6;have eb:=ab o.b0 6;have d1:w4.cell? ⟨w.1.size,7,none⟩=some (.int .i64 0):=aa o.b0 7;have ec:=ab o.b0 7;have d2:w4.cell? ⟨w.1.size,8,none⟩=some (.int .i64 0):=aa o.b0 8;have el:=ab o.b0 8;have d3:w4.cell? ⟨w.1.size,9,none⟩=some (.int .i64 0):=aa o.b0 9;have em:=ab o.b0 9;have df:w4.cell? ⟨w.1.size,10,none⟩=some (.slice none 0 0):=aa o.b0 10;have d6:=ab o.b0 10;have ck:w4.cell? ⟨w.1.size+1,0,none⟩=some (.int .i64 0):=aa o.b1 0;have co:=ab o.b1 0
   have a2:=xX (nW o (.int .i64 3) (.int .i64 0) (.slice none 0 0) (.int .i64 0) (.int .i64 0) (.int .i64 0) (.slice none 0 0) (.int .i64 f.index.at_) (.int .i64 f.index.frames) (.int .i64 f.index.rows) (.slice cp f.index.entries.length cn));clear hb o M;go_wp2;obtain⟨Z,ah,aj,bb⟩:=a2.out;obtain⟨z,E,L,J⟩:=a3.out;have b3:f.index.entries.length<=64:=by
    unfold Fr.err0 at E;rw[if_neg (by omega),if_neg (by omega),if_pos z] at E;unfold Fr.idxErr at E;split at E
    ·omega
    ·split at E
     ·omega
     ·omega
   exact bq.out _ _ f a4.out Z rfl ah (sY J z ((U.out.on a0.out).aside aj (fun k z ez=>by have:=(U.out.lt k z).1;omega)) b3 (by omega)) bb _ _ rfl rfl rfl
theorem uM(p:OA)(c:Nat)(l:L8)(o:l.length<=140737488351232)(z:l.length<=c)(w:World)(A:Hv w)(h:At w p l):
  Calls Tryz.prog 55 #[.slice p l.length c] w (jQ w (Fr.dec l)):=by
 cases mo:Fr.open_ l with
 |error er=>exact mH er p c l o z w A h mo
 |ok b=>exact ov b p c l o z w A h mo
end
end Go.Proofs.YtdkammppnkhhoaaGreatDoor
