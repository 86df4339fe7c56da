import Derived.Stop.Asserts
import Derived.Test.YtngmnfdaedlodaaGreatDoorC8
import Derived.Test.YtngmnfdaedlodaaGreatDoorB40
set_option maxRecDepth 100000
set_option maxHeartbeats 4000000
namespace Go.Proofs.YtngmnfdaedlodaaGreatDoor
open Go.Proofs.Tryz
open Option renaming some->I,none->O
open Go.Value renaming int->U,pointer->N,agg->qx,slice->pv,tuple->qv
open Go.IntKind renaming i64->R
open Go.Proofs.Tryz renaming prog->AE
open Go renaming World->AU,Value->AA,Calls->AB
open Go.Ending renaming returned->wv
open Go.Obj renaming cells->wx
open Go.RowKit renaming Below->AC
open Bool renaming false->AK
open Except renaming error->AQ
variable{K:Nat}{w w':AU}
section
open Go.RowKit Go.Extern.Stop Go.Stop Go.Extern
def He(w:AU):Prop:=w.cell? ⟨1,0,O⟩=I (.iface 244 (qx #[N (I ⟨4,123,O⟩)]))
theorem uY(t:AA)(w:AU):
  AB AE 90 #[.nilIface,t] w fun e w'=>e=wv (.bool AK)∧w'=w:=by
 go_enter func90,ntmps90;go_wp2;go_ret;exact⟨rfl,rfl⟩
theorem sW(t:Addr)(w:AU):(ReflectliteValue.unpack (.iface 168 (N (I t)))).run AE w
 =.ok (qx #[N (I ⟨4,168,O⟩),N (I ⟨w.1.size,0,O⟩),U .u64 150]) (w.alloc (wx #[N (I t)] 168)):=by kernel_rfl
theorem yX(a : Addr)(w : AU): (ReflectliteValue.methodAny (ReflectliteValue.valueError "reflectlite.Value.Type" 0) (fun t _ _ _=>ReflectliteType.toType t) #[qx #[N (I ⟨4, 168, O⟩), N (I a), U .u64 150]]).run AE w
 =.ok (.iface 244 (qx #[N (I ⟨4,168,O⟩)])) w:=by kernel_rfl
theorem lA(h : AA)(w : AU): (Go.method 442 244 (qx #[h]) "Kind").run AE w=.ok (235, h) w := by kernel_rfl
theorem zB(w:AU):((ReflectliteType.abiMethod fun t=>Functor.map (fun a:Nat=>U IntKind.u8 (a:Int)) (Rtype.kind t)) #[N (I ⟨4,168,O⟩)]).run AE w=.ok (U .u8 22) w:=by kernel_rfl
theorem zA(w:AU):((ReflectliteType.abiMethod fun t=>Functor.map (fun a:Nat=>U IntKind.u8 (a:Int)) (Rtype.kind t)) #[N (I ⟨4,166,O⟩)]).run AE w=.ok (U .u8 25) w:=by kernel_rfl
theorem xp(z:Sem AA)(f:TypeId->Addr->Nat->Nat->Sem AA)(v:AA):
  ReflectliteValue.method z f #[v]=(do match <-ReflectliteValue.parts v with | none=>z | some (t,a,fl)=>f t a fl (fl % 32)):=rfl
theorem tC(a:Addr)(w:AU):(ReflectliteValue.parts (qx #[N (I ⟨4,168,O⟩),N (I a),U .u64 150])).run AE w=.ok (I (168,a,150)) w:=by kernel_rfl
theorem yw(a p:Addr)(W:AU)(o:W.cell? a=I (N (I p))):
  (ReflectliteValue.method (ReflectliteValue.valueError "reflectlite.Value.IsNil" 0) ReflectliteValue.isNil #[qx #[N (I ⟨4, 168, O⟩), N (I a), U .u64 150]]).run AE W=.ok (.bool AK) W := by
 rw[xp];simp only[Sem.run_bind,tC,Result.andThen];simp[ReflectliteValue.isNil,loadVar,isAgg,underlying,underlying168,o,Result.andThen]
theorem lB(h : AA)(w : AU): (Go.method 442 244 (qx #[h]) "Elem").run AE w=.ok (257, qx #[h]) w := by kernel_rfl
theorem fW(h : AA)(w : AU): (Go.method 442 244 (qx #[h]) "Implements").run AE w=.ok (258, qx #[h]) w := by kernel_rfl
theorem eZ(h : AA)(w : AU): (Go.method 442 244 (qx #[h]) "AssignableTo").run AE w=.ok (255, qx #[h]) w := by kernel_rfl
theorem zS(w:AU):(ReflectliteType.method ReflectliteType.elem #[qx #[N (I ⟨4,168,O⟩)]]).run AE w=.ok (.iface 244 (qx #[N (I ⟨4,166,O⟩)])) w:=by kernel_rfl
theorem nC(w : AU): (ReflectliteType.relation "Implements" ReflectliteType.implements_ #[qx #[N (I ⟨4, 166, O⟩)], .iface 244 (qx #[N (I ⟨4, 123, O⟩)])]).run AE w=.ok (.bool true) w := by kernel_rfl
theorem vL(v:AA)(w:AU):(ReflectliteType.typeOf #[.iface 166 v]).run AE w=.ok (.iface 244 (qx #[N (I ⟨4,166,O⟩)])) w:=by kernel_rfl
theorem nR(w : AU): (ReflectliteType.relation "AssignableTo" ReflectliteType.assignableTo #[qx #[N (I ⟨4, 166, O⟩)], .iface 244 (qx #[N (I ⟨4, 166, O⟩)])]).run AE w=.ok (.bool true) w := by kernel_rfl
theorem sV(e:Int)(w:AU):(ReflectliteValue.unpack (.iface 166 (qx #[U R e]))).run AE w
 =.ok (qx #[N (I ⟨4,166,O⟩),N (I ⟨w.1.size,0,O⟩),U .u64 153]) (w.alloc (wx #[U R e] 166)):=by kernel_rfl
theorem wM(w:AU):(Rtype.elem? 168).run AE w=.ok (I 166) w:=by kernel_rfl
theorem mkS(p:Addr)(w:AU):(ReflectliteValue.mk 166 p ReflectliteValue.flagAddr).run AE w=.ok (qx #[N (I ⟨4,166,O⟩),N (I p),U .u64 409]) w:=by kernel_rfl
theorem yM(a p:Addr)(W:AU)(o:W.cell? a=I (N (I p))):
  (ReflectliteValue.method (ReflectliteValue.valueError "reflectlite.Value.Elem" 0) ReflectliteValue.elem #[qx #[N (I ⟨4, 168, O⟩), N (I a), U .u64 150]]).run AE W
  =.ok (qx #[N (I ⟨4,166,O⟩),N (I p),U .u64 409]) W:=by
 rw[xp];simp only[Sem.run_bind,tC,Result.andThen];simp[ReflectliteValue.elem,loadVar,isAgg,underlying,underlying168,o,Result.andThen,wM,mkS]
theorem zn(v x:AA):ReflectliteValue.set #[v,x]=(do
  let (I (dst,a,fl),I (src,b,_)):=(<-ReflectliteValue.parts v,<-ReflectliteValue.parts x)
   |unsupported (.noEntry "extern/(internal/reflectlite.Value).Set.zeroValue")
  if fl / ReflectliteValue.flagAddr % 2==0 then unsupported (.noEntry "extern/(internal/reflectlite.Value).Set.unaddressable")
  let val <-loadVar src b
  if <-Rtype.directlyAssignable dst src then storeVar dst a val
  else if <-Rtype.implements dst src then
   if (<-Rtype.kind src)==20 then
    match val with
    |.nilIface=>unsupported (.noEntry "extern/reflectlite: a nil value of one interface type handed on as a value of another")
    |_=>storeVar dst a val
   else storeVar dst a (.iface src val)
  else panicString ("reflectlite.Set: value of type "++(<-Rtype.spelt src)++ " is not assignable to type "++(<-Rtype.spelt dst))
  pure (qv #[])):=rfl
theorem vX(a:Addr)(w:AU):(ReflectliteValue.parts (qx #[N (I ⟨4,166,O⟩),N (I a),U .u64 409])).run AE w=.ok (I (166,a,409)) w:=by kernel_rfl
theorem xY(a:Addr)(w:AU):(ReflectliteValue.parts (qx #[N (I ⟨4,166,O⟩),N (I a),U .u64 153])).run AE w=.ok (I (166,a,153)) w:=by kernel_rfl
theorem wQ(w:AU):(Rtype.directlyAssignable 166 166).run AE w=.ok true w:=by kernel_rfl
theorem setS(o b:Nat)(e:Int)(old:AA)(W:AU)(hb:W.cell? ⟨b,0,O⟩=I (U R e))(D:W.cell? ⟨o,0,O⟩=I old)(y:W.frozen? ⟨o,0,O⟩=AK):
  (ReflectliteValue.set #[qx #[N (I ⟨4,166,O⟩),N (I ⟨o,0,O⟩),U .u64 409],qx #[N (I ⟨4,166,O⟩),N (I ⟨b,0,O⟩),U .u64 153]]).run AE W
  =.ok (qv #[]) (W.setCell ⟨o,0,O⟩ (U R e)):=by
 rw[zn];simp only[Sem.run_bind,vX,xY,Result.andThen];have A:(loadVar 166 ⟨b,0,O⟩).run AE W=.ok (qx #[U R e]) W:=by
  simp[loadVar,isAgg,underlying,underlying166,loadCells,loadCellsFrom,Addr.add,hb,Result.andThen]
 simp[ReflectliteValue.flagAddr,A,Result.andThen,wQ,storeVar,Value.cells,storeCells,Addr.add];rw[run_store AE W ⟨o,0,O⟩ _ _ (by rfl)];simp[D,y]
theorem uZ(x:Int)(t:Nat)(old:AA)(w:AU)(o:He w)(A:w.cell? ⟨t,0,O⟩=I old)(J:w.frozen? ⟨t,0,O⟩=AK):
  AB AE 90 #[.iface 166 (qx #[U R x]),.iface 168 (N (I ⟨t,0,O⟩))] w fun E w'=>E=wv (.bool true)∧w'=((((w.alloc (wx #[N (I ⟨t,0,O⟩)] 168)).alloc (wx #[N (I ⟨4,168,O⟩),N (I ⟨w.1.size,0,O⟩),U .u64 150] 202)).alloc (wx #[N (I ⟨4,168,O⟩),N (I ⟨w.1.size,0,O⟩),U .u64 150] 202)).alloc (wx #[U R x] 166)).setCell ⟨t,0,O⟩ (U R x):=by
 unfold He at o;have aw:=@run_callFunc_extern AE 121 _ (fun args=>ReflectliteValue.unpack (args.getD 0 (qv #[]))) func121 (by kernel_rfl) (by kernel_rfl) (by kernel_rfl) (by kernel_rfl);have a0 := @run_callFunc_extern AE 122 _ (ReflectliteValue.methodAny (ReflectliteValue.valueError "reflectlite.Value.Type" 0) (fun t _ _ _=>ReflectliteType.toType t)) func122 (by kernel_rfl) (by kernel_rfl) (by kernel_rfl) (by kernel_rfl);have a1 := @run_callFunc_extern AE 123 _ (ReflectliteValue.method (ReflectliteValue.valueError "reflectlite.Value.IsNil" 0) ReflectliteValue.isNil) func123 (by kernel_rfl) (by kernel_rfl) (by kernel_rfl) (by kernel_rfl);have ah:=@run_callFunc_extern AE 235 _ (ReflectliteType.abiMethod fun t=>do pure (U .u8 (<-Rtype.kind t))) func235 (by kernel_rfl) (by kernel_rfl) (by kernel_rfl) (by kernel_rfl);have aj:=@run_callFunc_extern AE 257 _ (ReflectliteType.method ReflectliteType.elem) func257 (by kernel_rfl) (by kernel_rfl) (by kernel_rfl) (by kernel_rfl);have ak := @run_callFunc_extern AE 258 _ (ReflectliteType.relation "Implements" ReflectliteType.implements_) func258 (by kernel_rfl) (by kernel_rfl) (by kernel_rfl) (by kernel_rfl);have X:=@run_callFunc_extern AE 155 _ ReflectliteType.typeOf func155 (by kernel_rfl) (by kernel_rfl) (by kernel_rfl) (by kernel_rfl);have ai := @run_callFunc_extern AE 255 _ (ReflectliteType.relation "AssignableTo" ReflectliteType.assignableTo) func255 (by kernel_rfl) (by kernel_rfl) (by kernel_rfl) (by kernel_rfl)
 have Z := @run_callFunc_extern AE 156 _ (ReflectliteValue.method (ReflectliteValue.valueError "reflectlite.Value.Elem" 0) ReflectliteValue.elem) func156 (by kernel_rfl) (by kernel_rfl) (by kernel_rfl) (by kernel_rfl);have ab:=@run_callFunc_extern AE 157 _ ReflectliteValue.set func157 (by kernel_rfl) (by kernel_rfl) (by kernel_rfl) (by kernel_rfl);have bc:=vL;have a6:=eZ;have L:=nR;have be:=sV;have S:=sW;have V:=yX;have a9:=lA;have a7:=lB;have a8:=fW;have a5:=zB;have a4:=zA;have M:=zS;have a3:=nC;have n8:=yw ⟨w.1.size,0,O⟩ ⟨t,0,O⟩ ((w.alloc (wx #[N (I ⟨t,0,O⟩)] 168)).alloc (wx #[N (I ⟨4,168,O⟩),N (I ⟨w.1.size,0,O⟩),U .u64 150] 202)) (by simp);have y:1<w.1.size:=by
  rcases Nat.lt_or_ge 1 w.1.size with h | h
  ·exact h
  ·simp[World.cell?,Array.getElem?_eq_none h] at o
 have a2:((w.alloc (wx #[N (I ⟨t,0,O⟩)] 168)).alloc (wx #[N (I ⟨4,168,O⟩),N (I ⟨w.1.size,0,O⟩),U .u64 150] 202)).cell? ⟨1,0,O⟩=I (.iface 244 (qx #[N (I ⟨4,123,O⟩)])):=by
  rw[World.cell?_alloc_lt _ _ ⟨1,0,O⟩ (AS y (by simp)),World.cell?_alloc_lt _ _ ⟨1,0,O⟩ y];exact o
 have D:t<w.1.size:=by
  rcases Nat.lt_or_ge t w.1.size with h | h
  ·exact h
  ·simp[World.cell?,Array.getElem?_eq_none h] at A
 have Q:=yM ⟨w.1.size,0,O⟩ ⟨t,0,O⟩ (((w.alloc (wx #[N (I ⟨t,0,O⟩)] 168)).alloc (wx #[N (I ⟨4,168,O⟩),N (I ⟨w.1.size,0,O⟩),U .u64 150] 202)).alloc (wx #[N (I ⟨4,168,O⟩),N (I ⟨w.1.size,0,O⟩),U .u64 150] 202)) (by rw[World.cell?_alloc_lt _ _ ⟨w.1.size,0,O⟩ (by simp;omega)];simp)
 have bb:=setS t (w.1.size+1+1+1) x old ((((w.alloc (wx #[N (I ⟨t,0,O⟩)] 168)).alloc (wx #[N (I ⟨4,168,O⟩),N (I ⟨w.1.size,0,O⟩),U .u64 150] 202)).alloc (wx #[N (I ⟨4,168,O⟩),N (I ⟨w.1.size,0,O⟩),U .u64 150] 202)).alloc (wx #[U R x] 166))
  (by rw[World.cell?_alloc_at _ _ _ _ (by simp)];rfl)
  (by rw[World.cell?_alloc_lt _ _ ⟨t,0,O⟩ (by simp;omega),World.cell?_alloc_lt _ _ ⟨t,0,O⟩ (by simp;omega),World.cell?_alloc_lt _ _ ⟨t,0,O⟩ (by simp;omega),World.cell?_alloc_lt _ _ ⟨t,0,O⟩ D];exact A)
  (by rw[World.frozen?_alloc_old _ _ ⟨t,0,O⟩ (by simp;omega),World.frozen?_alloc_old _ _ ⟨t,0,O⟩ (by simp;omega),World.frozen?_alloc_old _ _ ⟨t,0,O⟩ (by simp;omega),World.frozen?_alloc_old _ _ ⟨t,0,O⟩ (Nat.ne_of_lt D)];exact J)
 go_enter func90,ntmps90;go_wp2;refine wp_loop_rounds 1 ?_;rw[rounds_succ];go_wp2;go_ret;exact⟨rfl,rfl⟩
theorem He.on(h:He w)(hb:AC w.1.size w w'):He w':=by
 unfold He at *
 have y:1<w.1.size:=by
  rcases Nat.lt_or_ge 1 w.1.size with o | o
  ·exact o
  ·simp[World.cell?,Array.getElem?_eq_none o] at h
 unfold World.cell? at *
 rw[hb.block _ y];exact h
theorem sg(w:AU):AB AE 62 #[.nilIface] w fun e w'=>e=wv (U R 0)∧AC w.1.size w w':=by
 go_enter func62,ntmps62;go_wp2_with (first | (go_at_call 90;refine(uY _ _).mono ?_;rintro e w' ⟨rfl,rfl⟩));go_ret;exact⟨rfl,gQy⟩
theorem kX(x:Int)(w:AU)(y:He w):AB AE 62 #[.iface 166 (qx #[U R x])] w fun e w'=>e=wv (U R x)∧AC w.1.size w w':=by
 have A:He (w.alloc (wx #[U R 0] 166)):=y.on gQy;have D:(w.alloc (wx #[U R 0] 166)).cell? ⟨w.1.size,0,O⟩=I (U R 0):=by simp
 have o:(w.alloc (wx #[U R 0] 166)).frozen? ⟨w.1.size,0,O⟩=false:=by simp
 have H:=uZ x w.1.size _ _ A D o;clear A D o y;go_enter func62,ntmps62;go_wp2_with (first | (go_at_call 90;refine H.mono ?_;rintro e w' ⟨rfl,rfl⟩));go_ret;exact⟨rfl,(((gQy.alloc (by simp) _).alloc (by simp;omega) _).alloc (by simp;omega) _).alloc (by simp;omega) _⟩
end
section
open Go.RowKit
theorem pm(a:Int)(p:OA)(c:Nat)(l:L8)(aw:l.length<=140737488351232)(a0:l.length<=c)(w:AU)(ah:Hv w)(h:At w p l):
  AB AE 154 #[qx #[U R a,pv p l.length c]] w fun e w'=>e=wv (.bool (Rp.isF l))∧AC w.1.size w w':=by
 obtain⟨W,S⟩:∃W,W=w.alloc (wx #[U R a,pv p l.length c] 240):=⟨_,rfl⟩;have M:AC w.1.size w W:=by rw[S];exact gQy
 have J:=gQq (qE p c l aw a0 W (ah.next M) (h.on M));have E:=gQq M;have aj:=gQq S.symm
 have y:Hid (Rp.isF l=match Fr.dec l with
  |.ok _=>true
  |AQ _=>AK):=rfl
 have L:Hid (∀o,Fr.dec l=AQ o->o≠0):=fun o ak=>jJ ak;obtain⟨r,Z⟩:∃r,r=Fr.dec l:=⟨_,rfl⟩;rw[<-Z] at J y L;obtain⟨z,ai⟩:∃z,z=Rp.isF l:=⟨_,rfl⟩;rw[<-ai] at y ⊢;clear ah h Z ai M S;go_enter func154,ntmps154;go_wp2_with fail;rw[aj.out];refine J.out.mono ?_;intro e w1 V;cases r with
 |error o=>
  obtain⟨rfl,D⟩:e=wv (qv #[qx #[U R 0,U R 0,pv O 0 0,U R 0,U R 0,U R 0,pv O 0 0,U R 0,U R 0,U R 0,pv O 0 0],U R (o:Nat)])∧AC W.1.size W w1:=V;have a1:=L.out o rfl;have a6:((o:Int)==0)=false:=by rw[BQ];omega
  have Q:Hid (z=AK):=y.out;have A:=gQq (E.out.trans (D.mono E.out.size));clear a1 D J L y;go_wp2;go_ret;exact⟨by rw[Q.out];rfl,A.out.alloc A.out.size _⟩
 |ok f=>
  obtain⟨u,rfl,X,D⟩:∃u,e=wv (qv #[qx u,U R 0])∧eI w1 W.1.size u f∧AC W.1.size W w1:=V;obtain⟨sp,a7,a3,a2,a5,a4,ab,-⟩:=X.out;unfold aF at ab;subst ab;have Q:Hid (z=true):=y.out;have A:=gQq (E.out.trans (D.mono E.out.size));clear X D J L y;go_wp2;go_ret;exact⟨by rw[Q.out];rfl,A.out.alloc A.out.size _⟩
def lc(w:AU)(p:OA)(rs:List Run):Prop:=∀j (hj:j<rs.length),∃g,p=I ⟨g,0,O⟩∧w.cell? ⟨g,j*2,O⟩=I (U R rs[j].1)∧∃q c,w.cell? ⟨g,j*2+1,O⟩=I (pv q rs[j].2.length c)∧At w q rs[j].2∧rs[j].2.length<=c
theorem bF.readF{B:Nat}{q:OA}{n c:Nat}{J:List Nat}{y:List Run}(h:bF w B (pv q n c) J y):lc w q y:=by
 obtain⟨us,V,a6,X⟩:=h.out;intro j ak;rcases V.2 with ⟨_,a1⟩ | ⟨g,cap,a0,aj,a2,Z,a3,a4,a5,ab⟩
 ·omega
 ·injection aj with A _ _;subst A;obtain⟨S,L,A,M,Q,o⟩:=X j ak;have D:∀m v,m<y.length*2->us[m]?=I v->w.cell? ⟨g,m,O⟩=I v:=fun m v o E=>by
   rw[<-ab,List.getElem?_take_of_lt o] at E;simp only[World.cell?,Z];simpa using E
  obtain⟨p2,c2,aw,ah,ai⟩:=o.has.at;injection aw with i1 _ i3;subst i1;subst i3;exact⟨g,rfl,D _ _ (by omega) M,I ⟨S,0,O⟩,L,D _ _ (by omega) Q,ah,ai⟩
theorem lc.on{p:OA}{o:List Run}(h:lc w p o)(hb:AC w.1.size w w'):lc w' p o:=fun j L=>by
 obtain⟨g,y,A,q,c,D,E,J⟩:=h j L;exact⟨g,y,ae hb A,q,c,ae hb D,E.on hb,J⟩
theorem nB(p:OA)(c:Nat)(o:List Run)(a9:o.length<=100000000)(aj:∀r∈o,r.2.length<=2200)(w:AU)(ak:Hv w)(h:lc w p o):
  AB AE 176 #[pv p o.length c,.func (.func 154) #[] #[]] w fun e w'=>∃k:Int,e=wv (U R k)∧(decide (0<=k)=o.any fun r=>Rp.isF r.2)∧AC w.1.size w w':=by
 have a0:=gQq h;have a2:=gQq ak;have a1:=gQq aj;clear h ak aj;go_enter func176,ntmps176;go_wp2_with fail;go_loopw [8] (fun S wr=>∃j:Nat,j<=o.length∧S=U R j∧Hid (AC w.1.size w wr∧∀m (A:m<o.length),m<j->Rp.isF o[m].2=AK)) (fun S _=>o.length-(intOf S).toNat);case atStart=>exact⟨0,Nat.zero_le _,rfl,gQz,fun m _ h=>by omega⟩
 case round=>
  obtain⟨j,a8,rfl,y⟩:=hrel;by_cases L:j<o.length
  ·have a3:(j:Int)<(o.length:Int):=(by omega);obtain⟨g,a6,a4,q,d,a5,Z,ab⟩:=(a0.out.on y.out.1) j L;subst a6;have E:=pm o[j].1 q d o[j].2 (by have:=a1.out o[j] (Aw L);omega) ab wr (a2.out.next y.out.1) Z;obtain⟨z,Q⟩:∃z,z=Rp.isF o[j].2:=⟨_,rfl⟩;obtain⟨n,M⟩:∃n,n=o[j].2.length:=⟨_,rfl⟩;obtain⟨a,J⟩:∃a,a=o[j].1:=⟨_,rfl⟩;rw[<-Q,<-M,<-J] at E;rw[<-M] at a5;rw[<-J] at a4;have X:=gQq E;have D:=gQq Q;clear E Q M J Z ab;go_wp2_with fail;refine X.out.mono ?_;rintro e w1 ⟨rfl,ai⟩;have V:=gQq (y.out.1.trans (ai.mono y.out.1.size));clear ai X;cases z with
   |true=>
    go_wp2;go_ret;refine⟨(j:Int),rfl,?_,V.out⟩;rw[AR (by omega)];exact(List.any_eq_true.2 ⟨o[j],Aw L,D.out.symm⟩).symm
   |false=>
    have aw:Hid (AC w.1.size w w1∧∀m (A:m<o.length),m<j+1->Rp.isF o[m].2=AK):=⟨V.out,fun m A h=>by
     rcases Nat.lt_or_ge m j with ah | ah
     ·exact y.out.2 m A ah
     ·obtain rfl:m=j:=by omega
      exact D.out.symm⟩
    clear y D;go_wp2;go_roundw;case rel=>exact⟨j+1,by omega,by go_num,aw⟩
    case measure=>simp[intOf];omega
  ·have a3:¬(j:Int)<(o.length:Int):=(by omega);go_wp2;go_ret;refine⟨-1,rfl,?_,y.out.1⟩;rw[AP (by omega)];symm;rw[List.any_eq_false];intro r a7;obtain⟨m,A,rfl⟩:=List.mem_iff_getElem.1 a7;rw[y.out.2 m A (by omega)];simp
theorem jK(p:OA)(c:Nat)(o:List Run)(M:o.length<=100000000)(D:∀r∈o,r.2.length<=2200)(w:AU)(E:Hv w)(h:lc w p o):
  AB AE 152 #[pv p o.length c,.func (.func 154) #[] #[]] w fun e w'=>e=wv (.bool (o.any fun r=>Rp.isF r.2))∧AC w.1.size w w':=by
 have y:=gQq (nB p c o M D w E h);clear D E h;go_enter func152,ntmps152;go_wp2_with fail;refine y.out.mono ?_;rintro e w1 ⟨k,rfl,A,hb⟩;have L:=gQq A;have J:=gQq hb;clear A hb y;go_wp2;go_ret;exact⟨by rw[<-L.out];rfl,J.out⟩
end
section
open Go.RowKit Go.Maps
def xg(w:AU)(B g:Nat)(v:AA)(s:Dv.St)(x k:Nat)(G:Nat->Prop)(J:Nat)(wk:Wk)(e:Ending)(w':AU):Prop :=
 ∃v' g' t,e=wv (qv #[N (I ⟨w.1.size+1,0,O⟩),U R (Rp.kept s.b J:Nat)])∧av w' w.1.size (w.1.size+1) w.1.size J v' g' wk G∧t<=s.told+1000000000∧ax w' B g v { s with told:=t } x k∧Aside (fun i=>i=g) w w'
section
variable {w:AU} {B g x k:Nat} {v:AA} {s:Dv.St} {G:Nat->Prop}
theorem wm(h:ax w B g v s x k)(hd:s.down=AK)(fx:s.b.length<=2097152)(gm:s.told<=1000000000000000)(eq:Hv w)(b1:2<B)(c9:B<=w.1.size)(dr:∀i,i=g∨v.ownBlock=I i->G i)(b3:∀i,G i->i<w.1.size){J:Nat}{X:Sc.Pos}(cb:Sc.goes s.b J=I X):
  AB AE 119 #[N (I ⟨g,0,O⟩),U R (X.at_:Nat)] w (xg w B g v s x k G J X.wk):=by
 have cx:=gQq (uc w G b3);have cr:=gQq h;have cs:=gQq eq;have cq:=gQq dr;have f3:=gQq b3;have fs:=h.lt;have gd:=h.base;have ez:=gQq hd;have a9:=gQq cb;have e9:=(Sc.goes_good cb).2.1;obtain⟨E,b2⟩:∃E,E=X.at_:=⟨_,rfl⟩;rw[<-b2] at e9 ⊢;have cp:=gQq b2;have f9:(E:Int)<=2097152:=by omega
 clear h eq dr b3 hd cb b2;go_enter func119,ntmps119;go_wp2_with fail;refine cx.out.mono ?_;rintro e w1 ⟨rfl,Q,hb1,fy⟩;have eC:Hid (WhI w w1 B g x k v s G 0 Sc.begin_):=⟨cr.out.below hb1,⟨_,_,Q⟩,af hb1 _,rfl⟩;clear Q hb1 fy cx cr;go_wp2_with fail;go_loopw [7,8] (fun cj f2 wr=>∃j Y,j<=J∧cj=U R (Sc.Pos.at_ Y:Nat)∧f2=U R (Rp.kept s.b j:Nat)∧Hid (WhI w wr B g x k v s G j Y)) (fun cj _ _=>s.b.length-(intOf cj).toNat);case atStart=>exact⟨0,Sc.begin_,Nat.zero_le _,rfl,rfl,eC⟩
 case round=>
  obtain⟨j,Y,gh,rfl,rfl,y⟩:=hrel;obtain⟨fq,fo,e8,gl⟩:=Sc.goes_good y.out.goes;obtain⟨v',c8,a5⟩:=y.out.walk;have fv:=Rp.kept_le y.out.goes;obtain⟨K,a1⟩:∃K,K=Rp.kept s.b j:=⟨_,rfl⟩;obtain⟨D,ai⟩:∃D,D=Y.at_:=⟨_,rfl⟩;rw[<-a1,<-ai] at fv;rw[<-a1,<-ai];rw[<-ai] at fo e8;have gb:(K:Int)<=2097152:=by omega
  have f7:(D:Int)<=2097152:=by omega
  have cu:=gQq a1;have V:=gQq ai;clear a1 ai fq;by_cases cd:j<J
  ·obtain⟨Z,b4⟩:=Rp.goes_pre (j:=j+1) a9.out (by omega);have eg:=Rp.goes_le y.out.goes a9.out (Nat.le_of_lt cd);rw[<-V.out,<-cp.out] at eg;have e6:(D:Int)<(E:Int):=(by omega);obtain⟨f4,a3,en⟩:=Sc.goes_pred b4;rw[y.out.goes] at a3;injection a3 with a3;subst a3;obtain⟨f,aw,el,ew,em⟩:=Sc.step_ok en;obtain⟨e2,e3,e4,ev,c7,fc,e5⟩:=Sc.at_ok aw;have ec:=Rp.kept_succ y.out.goes aw;have df:=kAt y.out.dev ez.out fx (by show s.told+Y.read+s.b.length<=_;omega) (cs.out.on (y.out.aside.below c9 (fun i o b7=>by omega)) b1) b1 (Y.at_:Nat);have dj:AB AE 13 #[N (I ⟨g,0,O⟩),U R (D:Nat)] wr fun e w'=>AtA (.ok (f,Z.at_)) wr e w'∧ax w' B g v { s with told:=s.told+Z.read } x k∧Aside (fun k=>k=g) wr w':=by
    rw[V.out,<-aw,em,<-Nat.add_assoc];exact df
   have a8:=gQq dj;have be:=gQq a5;obtain⟨C,a0⟩:∃C,C=Z.at_:=⟨_,rfl⟩;rw[<-a0] at a8 fc;have f6:D<C:=(by rw[a0,c7,<-V.out];simp;omega);have a7:=gQq a0;have bb:Hid (Sc.may Y.wk f (D:Nat)=true):=(by show _=_;rw[V.out];exact el);have c5:Hid (Sc.next Y.wk f (D:Nat)=Z.wk):=by
    show _=_;rw[ew];unfold Sc.next;rw[bb.out,AG rfl,V.out]
   have e1:=gQq b4;have cw:=gQq ec;have e0:=gQq ev;clear df dj a5 el ew em aw e2 e3 e4 c7 e5 a0 en b4 ec ev eg;go_wp2_with fail;refine a8.out.mono ?_;rintro e A ⟨fi,ea,has⟩;have ak:av A w.1.size (w.1.size+1) w.1.size j v' c8 Y.wk G:=be.out.aside (has.mono fun i _ o=>cq.out i (.inl o)) (fun i o=>.inl o) (fun i o=>AS (be.out.low i o) has.size);have aj:Aside (fun i=>i=g) w A:=y.out.aside.trans has (fun _ _ h=>h);obtain⟨u,rfl,b9⟩:∃u,e=wv (qv #[qx u,U R (C:Nat),U R 0])∧eI A wr.1.size u f:=fi;have b8:=b9.lies;obtain⟨sp,ci,bT,bO,b0,bX,ep,-⟩:=b9.out;unfold aF at ep;subst ep;obtain⟨L,b6⟩:∃x,x=f.kind:=⟨_,rfl⟩;obtain⟨bi,hb1⟩:∃x,x=f.number:=⟨_,rfl⟩;obtain⟨bk,d6⟩:∃x,x=f.cols.length:=⟨_,rfl⟩;obtain⟨bl,dv⟩:∃x,x=f.seq:=⟨_,rfl⟩;obtain⟨bn,d0⟩:∃x,x=f.first:=⟨_,rfl⟩;obtain⟨bp,d1⟩:∃x,x=f.rows:=⟨_,rfl⟩;obtain⟨bq,d2⟩:∃x,x=f.block.length:=⟨_,rfl⟩;obtain⟨bs,d3⟩:∃x,x=f.index.at_:=⟨_,rfl⟩;obtain⟨bv,d4⟩:∃x,x=f.index.frames:=⟨_,rfl⟩;obtain⟨bN,d5⟩:∃x,x=f.index.rows:=⟨_,rfl⟩;obtain⟨bj,du⟩:∃x,x=f.index.entries.length:=⟨_,rfl⟩;rw[<-b6,<-hb1,<-d6,<-dv,<-d0,<-d1,<-d2,<-d3,<-d4,<-d5,<-du] at b8 ⊢;obtain⟨S,a4⟩:∃S,S=A.alloc (wx #[U R L,U R bi,pv sp bk ci,U R bl,U R bn,U R bp,pv bT bq bO,U R bs,U R bv,U R bN,pv b0 bj bX] 52):=⟨_,rfl⟩;have M:AC A.1.size A S:=by rw[a4];exact gQy
   have d7:S.1[A.1.size]?=I (wx #[U R L,U R bi,pv sp bk ci,U R bl,U R bn,U R bp,pv bT bq bO,U R bs,U R bv,U R bN,pv b0 bj bX] 52):=(by rw[a4];exact an A _);have c6:Hid (A.alloc (wx #[U R L,U R bi,pv sp bk ci,U R bl,U R bn,U R bp,pv bT bq bO,U R bs,U R bv,U R bN,pv b0 bj bX] 52)=S):=a4.symm;have cc:=ak.on M;have er:Hv S:=cs.out.on ((aj.below c9 (fun i o b7=>by omega)).trans (M.mono (by have:=aj.size;omega))) b1;have bc:=gQq (ua cc f e0.out _ (b8.on M) (D:Nat) er (by omega) (by have:=aj.size;have:=M.size;omega));rw[bb.out,c5.out,AG rfl] at bc;have cv:=gQq cc;have co:=gQq (ea.below M);have ck:Hid (Aside (fun i=>i=g) w S):=aj.trans (af M (fun i=>i=g)) (fun _ _ h=>h);have a6:=gQq d7;have cy:Hid (∀i,bA (w.1.size+1) w.1.size v' i->i<A.1.size):=fun i o=>by
    rcases o with o | o | o
    ·rw[o];exact ak.lt
    ·rw[o];exact ak.map.lt
    ·exact(ak.ents.lt i o).2
   have cn:=gQq b6;have f8:(C:Int)<=2097152:=(by omega);clear b9 b8 ak ea aj has cc er M a4 d7 bb c5 a8 be b6 hb1 d6 dv d0 d1 d2 d3 d4 d5 du;go_wp2_with fail;rw[c6.out];refine bc.out.mono ?_;rintro e w4 ⟨rfl,gn,f5,eb,b5,f0⟩;obtain⟨d9,ds⟩:=WhI.after co.out cv.out ck.out b5 cq.out fs;have d8:=(b5.block _ (ap a6.out) (fun b7=>absurd (cy.out _ b7) (Nat.lt_irrefl _))).trans a6.out;have c0:w4.cell? ⟨A.1.size,0,O⟩=I (U R L):=aa d8 0;have ct:Hid (WhI w w4 B g x k v s G (j+1) Z):=⟨d9,⟨_,_,eb⟩,ds,e1.out⟩;clear eb b5 f0 d9 ds bc cv co ck c6 a6 cy d8;by_cases Q:L=1
   ·have e7:(L != 1)=false:=(by rw[Q];rfl);go_wp2;go_roundw;case rel=>exact⟨j+1,Z,cd,by rw[<-a7.out],by rw[cw.out,AG (by rw[<-cn.out];exact Q),cu.out],ct⟩
    case measure=>simp[intOf];omega
   ·have e7:(L != 1)=true:=(by rw[bne_iff_ne];exact Q);go_wp2;go_roundw;case rel=>exact⟨j+1,Z,cd,by rw[<-a7.out],by rw[cw.out,AF (by rw[<-cn.out];exact Q),a7.out],ct⟩
    case measure=>simp[intOf];omega
  ·obtain rfl:j=J:=by omega
   have a2:=y.out.goes;rw[a9.out] at a2;injection a2 with a2;subst a2;have e6:¬(D:Int)<(E:Int):=(by have:=V.out;have:=cp.out;omega);have eL:=gQq a5;clear a5;go_wp2;go_ret2;exact⟨v',c8,s.told+X.read,by rw[<-cu.out];rfl,eL.out,by omega,y.out.dev,y.out.aside⟩
end
end
section
open Go.RowKit Go.Maps
section
variable {w:AU} {B g x k:Nat} {v:AA} {s:Dv.St}
theorem qV(s:Dv.St)(p:Nat)(o:p<=s.b.length):Dv.read s (p:Nat) ((s.b.length:Int)-(p:Int))=(s.b.drop p,0,{ s with told:=s.told+(s.b.length-p) }):=by
 unfold Dv.read;rw[AF (by omega)];have e:(s.b.drop ((p:Nat):Int).toNat).take ((s.b.length:Int)-(p:Int)).toNat=s.b.drop p:=by
  rw[Int.toNat_natCast,List.take_of_length_le (by rw[AL];omega)]
 simp only[e,AL]
theorem o9(h:ax w B g v s x k)(bc:s.b.length<=2097152)(bN:s.told<=1000000000000000)(aj:Hv w)(a8:2<B)(p:Nat)(bi:p<=s.b.length):
  AB AE 118 #[N (I ⟨g,0,O⟩),U R (p:Nat)] w fun e w'=>e=wv (.bool (Rp.bad s.b p))∧ax w' B g v { s with told:=s.told+(s.b.length-p) } x k∧Aside (fun i=>i=g) w w':=by
 have M:=gQq (lG h);have o:=xC h (p:Nat) ((s.b.length:Int)-(p:Int)) (by omega) (by omega) (by omega) bc (by omega);rw[qV s p bi] at o;have bj:(s.b.drop p).length<=s.b.length:=by rw[AL];omega
 obtain⟨l,J⟩:∃l,l=s.b.drop p:=⟨_,rfl⟩;have V:Hid (Rp.bad s.b p=(Sp.of l).out.any fun r=>Rp.isF r.2):=by show _=_;rw[J];rfl
 rw[<-J] at o bj;have Q:=gQq o;obtain⟨z,a0⟩:∃z,z=Rp.bad s.b p:=⟨_,rfl⟩;rw[<-a0] at V ⊢;have a5:=gQq aj;have bv:=h.lt;have bp:=h.base;clear h aj o J a0;go_enter func118,ntmps118;go_wp2_with fail;refine M.out.mono ?_;rintro e w' ⟨rfl,aw⟩;rw[aw];clear aw w' M;go_wp2_with fail;refine Q.out.mono ?_;rintro e w1 ⟨q,cap,rfl,ah,ab,D⟩;have ak:Hv w1:=a5.out.on (D.below (B:=B) (by omega) (fun i bs bq=>by omega)) a8;obtain⟨bO,c2,bb,X,a9⟩:=ah.at;injection bb with e1 _ e3;subst e1;subst e3;have S:=gQq (zm w1 q cap l X (by omega));have a3:=gQq ab;have a1:=gQq D;have a6:=gQq ak;clear ah ab D ak X a9 Q;go_wp2_with fail;refine S.out.mono ?_;rintro e bk ⟨qr,a7,bn,rfl,ai,E⟩;have be:=Sp.out_len l;have y:=gQq (jK qr a7 (Sp.of l).out (by omega) (Rp.of_small l) bk (a6.out.next E) ai.readF);have L:=gQq E;rw[<-V.out] at y;clear ai E S be;go_wp2_with fail;refine y.out.mono ?_;rintro e bl ⟨rfl,Z⟩;have A:=L.out.trans (Z.mono L.out.size);have a4:=gQq (a3.out.below A);have a2:Hid (Aside (fun i=>i=g) w bl):=a1.out.trans (af A (fun i=>i=g)) (fun _ _ h=>h);clear Z A y;go_wp2;go_ret;exact⟨rfl,a4.out,a2.out⟩
theorem He.aside{F:Nat->Prop}(h:He w)(A:Aside F w w')(y:¬F 1):He w':=by
 unfold He at *
 have D:1<w.1.size:=by
  rcases Nat.lt_or_ge 1 w.1.size with o | o
  ·exact o
  ·simp[World.cell?,Array.getElem?_eq_none o] at h
 unfold World.cell? at *
 rw[A.block _ D y];exact h
def Aa(b:L8)(G:Nat->Prop)(fl:Nat->AA)(nl:AA)(w:AU)(r:Except Nat Nat)(e:Ending)(w':AU):Prop:=match r with
 |AQ c=>e=wv (qv #[U R 0,N O,fl c])
 |.ok K=>∃a M B' n v' g' m y,e=wv (qv #[U R (K:Nat),N (I ⟨a,0,O⟩),nl])∧av w' B' a M n v' g' (Sc.Pos.wk y) G∧w.1.size<=B'∧Sc.goes b m=I y∧y.at_=K
def im(c:Nat):Value:=.iface 166 (qx #[U R (c:Nat)])
theorem yp(h:ax w B g v s x k)(hd:s.down=AK)(bN:s.b.length<=2097152)(ec:s.told<=100000000000000)(bT:Hv w)(hB:2<B){j A:Nat}{o:Sc.Pos}(ah:Sc.goes s.b j=I o)(bO:Sc.step s.b o=AQ A):
  AB AE 88 #[N (I ⟨g,0,O⟩)] w fun e w'=>Aa s.b (fun i=>i=g∨v.ownBlock=I i) im .nilIface w (Rp.look s.b j o.at_ A) e w'∧∃t,t<=s.told+4000000000∧ax w' B g v { s with told:=t } x k∧Aside (fun i=>i=g) w w':=by
 have c9:=h.lt;have eb:=h.base;have bl:∀i,(i=g∨v.ownBlock=I i)->i<w.1.size:=fun i hi=>by
  rcases hi with hi | hi
  ·rw[hi];exact c9
  ·exact(h.has.lt i hi).2
 have b5:=lF (G:=fun i=>i=g∨v.ownBlock=I i) h hd bN (by omega) bT hB (by omega) (fun i hi=>hi) bl;have b6:AB AE 10 #[N (I ⟨g,0,O⟩)] w fun e w'=>e=wv (qv #[N (I ⟨w.1.size+1,0,O⟩),U R (o.at_:Nat),U R (A:Nat)])∧ax w' B g v { s with told:=s.told+o.read+Sc.reads s.b o.at_ } x k∧Aside (fun i=>i=g) w w':=by
  refine b5.mono ?_;rintro e w' ⟨ep,d3,d4,v',a4,bc,be,bi,-,bj,cy⟩;obtain⟨-,rfl,rfl⟩:=Sc.goes_uniq ah bO bc be;exact⟨bi,bj,cy⟩
 have a1:=gQq b6;obtain⟨c6,b8,c5,dr⟩:=Sc.goes_good ah;have ds:=Sc.reads_le s.b o.at_;have dj:=Rp.step_ne50 bO;have d7:((A:Int)==50)=false:=by rw[BQ];omega
 obtain⟨m,y,df,bs,bX,c8⟩:=Rp.kept_goes ah;have dv:=(Sc.goes_good bs).2.1;have b0:=gQq bs;have b4:=gQq bX;have cs:=gQq ah;have b1:=gQq bT;have cp:=gQq hd;have cr:=gQq bl;obtain⟨M,cd⟩:∃M,M=s.told+o.read+Sc.reads s.b o.at_:=⟨_,rfl⟩;have eg:M<=s.told+1000000000:=by omega
 rw[<-cd] at a1;have E:Hid (Rp.look s.b j o.at_ A=if A≠140∧Rp.bad s.b o.at_=true then AQ 150 else .ok (Rp.kept s.b j)):=rfl;have aj:Hid (∀w1,ax w1 B g v { s with told:=M } x k->Aside (fun i=>i=g) w w1->AB AE 118 #[N (I ⟨g,0,O⟩),U R (o.at_:Nat)] w1 fun e w'=>e=wv (.bool (Rp.bad s.b o.at_))∧ax w' B g v { s with told:=M+(s.b.length-o.at_) } x k∧Aside (fun i=>i=g) w1 w'):=fun w1 S ha1=>o9 S bN (by show M<=_;omega) (b1.out.on (ha1.below (B:=B) (by omega) (fun i hi ab=>by omega)) hB) hB o.at_ b8;have bb:Hid (∀w1 t J Z,t<=s.told+3000000000->ax w1 B g v { s with told:=t } x k->Aside (fun i=>i=g) w w1->Sc.goes s.b J=I Z->AB AE 119 #[N (I ⟨g,0,O⟩),U R (Sc.Pos.at_ Z:Nat)] w1 fun e w'=>∃v' a4 t',e=wv (qv #[N (I ⟨w1.1.size+1,0,O⟩),U R (Rp.kept s.b J:Nat)])∧av w' w1.1.size (w1.1.size+1) w1.1.size J v' a4 Z.wk (fun i=>i=g∨v.ownBlock=I i)∧t'<=t+1000000000∧ax w' B g v { s with told:=t' } x k∧Aside (fun i=>i=g) w w'):=fun w1 t J Z en S ha1 c7=>
  (wm (G:=fun i=>i=g∨v.ownBlock=I i) S cp.out bN (by show t<=_;omega) (b1.out.on (ha1.below (B:=B) (by omega) (fun i hi ab=>by omega)) hB) hB (by have:=ha1.size;omega) (fun i hi=>hi) (fun i hi=>AS (cr.out i hi) ha1.size) c7).mono (fun e w' ⟨v',a4,t',bc,be,bi,cx,bj⟩=>⟨v',a4,t',bc,be,bi,cx,ha1.trans bj (fun _ _ h=>h)⟩)
 obtain⟨L,bk⟩:∃L,L=o.at_:=⟨_,rfl⟩;rw[<-bk] at a1 E aj b8 ⊢;have cq:=gQq bk;have d8:(L:Int)<=2097152:=by omega
 obtain⟨K,a5⟩:∃K,K=Rp.kept s.b j:=⟨_,rfl⟩;rw[<-a5] at E;have a9:=gQq a5;have ea:K<=2097152:=by rw[a5,<-bX];omega
 have d9:(K:Int)<=2097152:=by omega
 clear h hd bT ah bO b5 b6 bl c6 c5 dr ds dj bs bX c8 df bk a5 dv cd;go_enter func88,ntmps88;go_wp2_with fail;refine a1.out.mono ?_;rintro e w1 ⟨rfl,S,ha1⟩;have ak:=gQq S;have V:=gQq ha1;clear S ha1 a1;by_cases X:A=140
 case' pos=>
  have cw:((A:Int) != 140)=false:=by rw[bne_eq_false_iff_eq];omega
  have a0:Hid (Rp.look s.b j L A=.ok K):=by show _=_;rw[E.out,AF (fun ab=>ab.1 X)]
  obtain⟨Q,a6⟩:∃Q,Q=w1:=⟨_,rfl⟩;obtain⟨D,ai⟩:∃D,D=M:=⟨_,rfl⟩;have du:D<=s.told+2000000000:=by omega
  have aw:Hid (ax Q B g v { s with told:=D } x k):=by rw[a6,ai];exact ak.out
  have a7:Hid (Aside (fun i=>i=g) w Q):=by rw[a6];exact V.out
  have cv:=gQq a6.symm;clear a6 ai aj ak V E X;go_wp2_with fail
 case' neg=>
  have cw:((A:Int) != 140)=true:=by rw[bne_iff_ne];omega
  have a8:=gQq (aj.out w1 ak.out V.out);obtain⟨z,cj⟩:∃z,z=Rp.bad s.b L:=⟨_,rfl⟩;rw[<-cj] at a8 E;clear aj cj;go_wp2_with fail;refine a8.out.mono ?_;rintro e Q ⟨rfl,bv,b9⟩;have a7:Hid (Aside (fun i=>i=g) w Q):=V.out.trans b9 (fun _ _ h=>h);obtain⟨D,ai⟩:∃D,D=M+(s.b.length-L):=⟨_,rfl⟩;rw[<-ai] at bv;have du:D<=s.told+2000000000:=by omega
  have aw:=gQq bv;clear bv b9 ai a8 ak V;rcases z with _ | _
  case' true=>
   have a0:Hid (Rp.look s.b j L A=AQ 150):=(by show _=_;rw[E.out,AG ⟨X,rfl⟩]);clear E X;go_wp2
   go_ret3
   rw[a0.out];exact⟨rfl,D,by omega,aw.out,a7.out⟩
  case' false=>
   have a0:Hid (Rp.look s.b j L A=.ok K):=(by show _=_;rw[E.out,AF (fun ab=>by cases ab.2)]);clear E X;go_wp2_with fail
 all_goals
  (first | rw[cv.out] | skip)
  have bn:=bb.out Q D j o (by omega) aw.out a7.out cs.out;rw[<-cq.out,<-a9.out] at bn;have b2:=gQq bn;clear bn aw;refine b2.out.mono ?_;rintro e d2 ⟨eq,d5,d0,rfl,-,el,cb,bq⟩;have bp:=bb.out d2 d0 m y (by omega) cb bq b0.out;rw[b4.out,<-a9.out] at bp;have b3:=gQq bp;have cn:=gQq bq;clear bp cb bq b2 bb;go_wp2_with fail;refine b3.out.mono ?_;rintro e w4 ⟨er,d6,d1,rfl,ci,em,cc,b7⟩;have cu:=gQq ci;have ct:=gQq cc;have co:=gQq b7;clear ci cc b7 b3;go_wp2
  go_ret3
  rw[a0.out];exact⟨⟨_,_,_,_,_,_,m,y,rfl,cu.out,cn.out.size,b0.out,by rw[b4.out,a9.out]⟩,d1,by omega,ct.out,co.out⟩
end
end
section
open Go.RowKit Go.Maps
theorem uG{s:Dv.St}(h:s.b.length=K):Rp.do_ s (.ok K)=(0,0,s):=by
 show(if _ then _ else _)=_;rw[AG h]
theorem yN{s:Dv.St}(h:¬s.b.length=K):Rp.do_ s (.ok K)=if (Dv.cut s K).1=0 then (s.b.length-K,0,(Dv.cut s K).2) else (0,(Dv.cut s K).1,(Dv.cut s K).2):=by
 show(if s.b.length=K then _ else _)=_;rw[AF h]
theorem uN(s:Dv.St)(t:Nat)(n:Int):(Dv.cut { s with told:=t } n).1=(Dv.cut s n).1:=by
 unfold Dv.cut;have o:Dv.may { s with told:=t }=Dv.may s:=rfl;simp only[o];split
 ·rfl
 ·split
  ·rfl
  ·split <;> rfl
section
variable {w:AU} {B g x k:Nat} {v:AA} {s:Dv.St}
def nH(c:Nat):Value:=if c=0 then .nilIface else im c
theorem si(c:Nat)(w:AU)(y:He w):AB AE 62 #[nH c] w fun e w'=>e=wv (U R (c:Nat))∧AC w.1.size w w':=by
 unfold nH;by_cases o:c=0
 ·rw[AG o,o];exact sg w
 ·rw[AF o];exact kX (c:Nat) w y
def vw(w:AU)(B g:Nat)(v:AA)(s:Dv.St)(r:Except Nat Nat)(w':AU):Prop :=
 ∃t v' x' k',t<=s.told+4000000000∧ax w' B g v' (Rp.do_ { s with told:=t } r).2.2 x' k'∧Aside (fun i=>i=g∨v.ownBlock=I i) w w'∧∀i,v'.ownBlock=I i->v.ownBlock=I i∨w.1.size<=i
theorem uh(h:ax w B g v s x k)(hd:s.down=AK)(aw:s.b.length<=2097152)(bN:s.safe<=s.b.length)(cc:s.done<4611686018427387904)(ci:s.told<=100000000000000)(bX:Hv w)(b9:2<B){j E:Nat}{o:Sc.Pos}(bp:Sc.goes s.b j=I o)(bO:Sc.step s.b o=AQ E):
  AB AE 61 #[N (I ⟨g,0,O⟩)] w fun e w'=>e=wv (qv #[U R ((Rp.do_ s (Rp.look s.b j o.at_ E)).1:Nat),nH (Rp.do_ s (Rp.look s.b j o.at_ E)).2.1])∧vw w B g v s (Rp.look s.b j o.at_ E) w':=by
 have ai:=gQq (yp h hd aw ci bX b9 bp bO);have a0:∀c,Rp.look s.b j o.at_ E=AQ c->c≠0:=fun c Z=>by
  unfold Rp.look at Z;split at Z
  ·cases Z;decide
  ·cases Z
 obtain⟨r,bv⟩:∃r,r=Rp.look s.b j o.at_ E:=⟨_,rfl⟩;rw[<-bv] at ai a0 ⊢;have b5:=gQq a0;clear h hd bX bp bO bv a0;go_enter func61,ntmps61;go_wp2_with fail;refine ai.out.mono ?_;rintro e w1 ⟨X,t,ab,bq,bk⟩;have S:=gQq bq;have HA1:Hid (Aside (fun i=>i=g∨v.ownBlock=I i) w w1):=bk.mono fun i _ hi=>.inl hi;clear bq bk ai;cases r with
 |error c=>
  replace X:e=wv (qv #[U R 0,N O,.iface 166 (qx #[U R (c:Nat)])]):=X
  subst X;have cd:=b5.out c rfl;go_wp2;go_ret2;refine⟨?_,t,v,x,k,ab,S.out,HA1.out,fun i hi=>.inl hi⟩;show _=wv (qv #[U R ((0:Nat):Int),nH c]);unfold nH;rw[AF cd];rfl
 |ok K=>
  obtain⟨a,M,B',n,v',cn,m,y,rfl,-,-,bn,b2⟩:=X;have cb:K<=s.b.length:=by rw[<-b2];exact(Sc.goes_good bn).2.1
  have a7:=gQq (lG S.out);have a4:=gQq (Ai S.out (K:Nat) bN aw cc);have bT:((s.b.length-K:Nat):Int)=(s.b.length:Int)-(K:Int):=by omega
  have b6:=gQq bT;obtain⟨A,V⟩:∃A,A=s.b.length:=⟨_,rfl⟩;have bj:AB AE 11 #[N (I ⟨g,0,O⟩)] w1 fun e w'=>e=wv (U R (A:Nat))∧w'=w1:=by rw[V];exact a7.out
  have a8:=gQq bj;rw[<-V] at cb aw;have aj:=gQq V;clear bn b2 bT bj a7 V bN;go_wp2_with fail;refine a8.out.mono ?_;rintro e w' ⟨rfl,b1⟩;rw[b1];clear b1 w' a8;by_cases bi:A=K
  ·have b7:((A:Int)-(K:Int)==0)=true:=(by rw[beq_iff_eq];omega);have bb:∀s':Dv.St,s'.b=s.b->Rp.do_ s' (.ok K)=(0,0,s'):=fun s' a1=>uG (by rw[a1,<-aj.out];exact bi);have a5:=gQq bb;clear bb;go_wp2;go_ret2;refine⟨?_,t,v,x,k,ab,?_,HA1.out,fun i hi=>.inl hi⟩
   ·rw[a5.out s rfl];rfl
   ·rw[a5.out { s with told:=t } rfl];exact S.out
  ·have b7:((A:Int)-(K:Int)==0)=false:=(by rw[BQ];omega);have bc:∀s':Dv.St,s'.b=s.b->Rp.do_ s' (.ok K)=if (Dv.cut s' K).1=0 then (s'.b.length-K,0,(Dv.cut s' K).2) else (0,(Dv.cut s' K).1,(Dv.cut s' K).2):=fun s' a1=>yN (by rw[a1,<-aj.out];exact bi);have be:(Dv.cut { s with told:=t } (K:Nat)).1=(Dv.cut s (K:Nat)).1:=uN s t K;have Q:=gQq bc;have ah:=gQq be;clear bc be;go_wp2_with fail;refine a4.out.mono ?_;rintro e cj ⟨rfl,a2,b4,b3,bs,bl,b0⟩;have a6:=gQq bs;have a3:Hid (Aside (fun i=>i=g∨v.ownBlock=I i) w cj):=HA1.out.trans bl (fun _ _ h=>h);have a9:Hid (∀i,a2.ownBlock=I i->v.ownBlock=I i∨w.1.size<=i):=fun i hi=>(b0 i hi).imp id (fun h=>AT HA1.out.size h);obtain⟨D,ak⟩:∃D,D=(Dv.cut { s with told:=t } (K:Nat)).1:=⟨_,rfl⟩;rw[<-ak];have J:=gQq ak;clear bs bl b0 a4 ak;by_cases L:D=0
   ·have b8:((D:Int) != 0)=false:=(by rw[bne_eq_false_iff_eq];omega);go_wp2;go_ret2;refine⟨?_,t,a2,b4,b3,ab,?_,a3.out,a9.out⟩
    ·rw[Q.out s rfl,AG (by rw[<-ah.out,<-J.out];exact L)];show _=wv (qv #[U R ((s.b.length-K:Nat):Int),.nilIface]);rw[b6.out,<-aj.out];rfl
    ·rw[Q.out { s with told:=t } rfl,AG (by rw[<-J.out];exact L)];exact a6.out
   ·have b8:((D:Int) != 0)=true:=(by rw[bne_iff_ne];omega);go_wp2;go_ret2;refine⟨?_,t,a2,b4,b3,ab,?_,a3.out,a9.out⟩
    ·rw[Q.out s rfl,AF (by rw[<-ah.out,<-J.out];exact L),<-ah.out,<-J.out];show _=wv (qv #[U R ((0:Nat):Int),nH D]);unfold nH;rw[AF L];rfl
    ·rw[Q.out { s with told:=t } rfl,AF (by rw[<-J.out];exact L)];exact a6.out
theorem kDo(h:ax w B g v s x k)(hd:s.down=AK)(a6:s.b.length<=2097152)(ai:s.safe<=s.b.length)(a4:s.done<4611686018427387904)(a7:s.told<=100000000000000)(ak:Hv w)(S:He w)(a3:2<B){j A:Nat}{y:Sc.Pos}(X:Sc.goes s.b j=I y)(aj:Sc.step s.b y=AQ A):
  AB AE 39 #[N (I ⟨g,0,O⟩)] w fun e w'=>e=wv (qv #[U R ((Rp.do_ s (Rp.look s.b j y.at_ A)).1:Nat),U R ((Rp.do_ s (Rp.look s.b j y.at_ A)).2.1:Nat)])∧vw w B g v s (Rp.look s.b j y.at_ A) w':=by
 have E:=gQq (uh h hd a6 ai a4 a7 ak a3 X aj);have a0:=gQq S;have bi:=h.base;have a1:Hid (∀i,v.ownBlock=I i->B<=i):=fun i a5=>(h.has.lt i a5).1;obtain⟨r,ah⟩:∃r,r=Rp.look s.b j y.at_ A:=⟨_,rfl⟩;rw[<-ah] at E ⊢;obtain⟨n,ab⟩:∃n,n=(Rp.do_ s r).1:=⟨_,rfl⟩;obtain⟨c,o⟩:∃c,c=(Rp.do_ s r).2.1:=⟨_,rfl⟩;rw[<-ab,<-o] at E ⊢;clear h hd ak S X aj ah ab o ai;go_enter func39,ntmps39;go_wp2_with fail;refine E.out.mono ?_;rintro e w1 ⟨rfl,t,v',D,k',a8,Z,L,aw⟩;have J:=gQq (si c w1 (a0.out.aside L (fun o=>by
  rcases o with o | o
  ·omega
  ·have:=a1.out _ o;omega)))
 obtain⟨fl,V⟩:∃fl,fl=nH c:=⟨_,rfl⟩;rw[<-V] at J ⊢;have a2:Hid (∃t v' D k',t<=s.told+4000000000∧ax w1 B g v' (Rp.do_ { s with told:=t } r).2.2 D k'∧Aside (fun i=>i=g∨v.ownBlock=I i) w w1∧∀i,v'.ownBlock=I i->v.ownBlock=I i∨w.1.size<=i):=⟨t,v',D,k',a8,Z,L,aw⟩;clear Z L aw V E;go_wp2_with fail;refine J.out.mono ?_;rintro e bj ⟨rfl,Q⟩;have M:=gQq Q;clear Q J;go_wp2;go_ret2;obtain⟨t,v',D,k',a9,bb,bc,be⟩:=a2.out;exact⟨rfl,t,v',D,k',a9,bb.below M.out,bc.trans (af M.out _) (fun _ _ h=>h),be⟩
end
end
end Go.Proofs.YtngmnfdaedlodaaGreatDoor
