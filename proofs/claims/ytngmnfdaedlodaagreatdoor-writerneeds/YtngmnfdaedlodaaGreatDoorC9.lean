import Derived.Stop.Asserts
import Derived.Test.YtngmnfdaedlodaaGreatDoorC8
import Derived.Test.YtngmnfdaedlodaaGreatDoorB40
set_option maxRecDepth 100000
set_option maxHeartbeats 4000000
namespace Go.Proofs.YtngmnfdaedlodaaGreatDoor
open Go.Proofs.Tryz
open Option renaming some->I,none->O
open Go.Value renaming int->U,pointer->N,agg->nx,slice->mA,tuple->oq
open Go.IntKind renaming i64->R
open Go.Proofs.Tryz renaming prog->AW
open Go renaming World->wv,Value->AQ,Calls->AZ
open Go.Ending renaming returned->qz
open Go.Obj renaming cells->qj
open Go.RowKit renaming Below->AX
open Bool renaming false->wx
open Except renaming error->qx
variable{K:Nat}{w w':wv}
section
open Go.RowKit Go.Extern.Stop Go.Stop Go.Extern
def He(w:wv):Prop:=w.cell? ⟨1,0,O⟩=I (.iface 244 (nx #[N (I ⟨4,123,O⟩)]))
theorem uQ(t:AQ)(w:wv):
  AZ AW 90 #[.nilIface,t] w fun e w'=>e=qz (.bool wx)∧w'=w:=by
 go_enter func90,ntmps90;go_wp2;go_ret;exact⟨rfl,rfl⟩
theorem sP(t:Addr)(w:wv):(ReflectliteValue.unpack (.iface 168 (N (I t)))).run AW w
 =.ok (nx #[N (I ⟨4,168,O⟩),N (I ⟨w.1.size,0,O⟩),U .u64 150]) (w.alloc (qj #[N (I t)] 168)):=by kernel_rfl
theorem yH(a : Addr)(w : wv): (ReflectliteValue.methodAny (ReflectliteValue.valueError "reflectlite.Value.Type" 0) (fun t _ _ _=>ReflectliteType.toType t) #[nx #[N (I ⟨4, 168, O⟩), N (I a), U .u64 150]]).run AW w
 =.ok (.iface 244 (nx #[N (I ⟨4,168,O⟩)])) w:=by kernel_rfl
theorem lq(h : AQ)(w : wv): (Go.method 442 244 (nx #[h]) "Kind").run AW w=.ok (235, h) w := by kernel_rfl
theorem zh(w:wv):((ReflectliteType.abiMethod fun t=>Functor.map (fun a:Nat=>U IntKind.u8 (a:Int)) (Rtype.kind t)) #[N (I ⟨4,168,O⟩)]).run AW w=.ok (U .u8 22) w:=by kernel_rfl
theorem zf(w:wv):((ReflectliteType.abiMethod fun t=>Functor.map (fun a:Nat=>U IntKind.u8 (a:Int)) (Rtype.kind t)) #[N (I ⟨4,166,O⟩)]).run AW w=.ok (U .u8 25) w:=by kernel_rfl
theorem wX(z:Sem AQ)(f:TypeId->Addr->Nat->Nat->Sem AQ)(v:AQ):
  ReflectliteValue.method z f #[v]=(do match <-ReflectliteValue.parts v with | none=>z | some (t,a,fl)=>f t a fl (fl % 32)):=rfl
theorem tr(a:Addr)(w:wv):(ReflectliteValue.parts (nx #[N (I ⟨4,168,O⟩),N (I a),U .u64 150])).run AW w=.ok (I (168,a,150)) w:=by kernel_rfl
theorem yg(a p:Addr)(W:wv)(o:W.cell? a=I (N (I p))):
  (ReflectliteValue.method (ReflectliteValue.valueError "reflectlite.Value.IsNil" 0) ReflectliteValue.isNil #[nx #[N (I ⟨4, 168, O⟩), N (I a), U .u64 150]]).run AW W=.ok (.bool wx) W := by
 rw[wX];simp only[Sem.run_bind,tr,Result.andThen];simp[ReflectliteValue.isNil,loadVar,isAgg,underlying,underlying168,o,Result.andThen]
theorem lu(h : AQ)(w : wv): (Go.method 442 244 (nx #[h]) "Elem").run AW w=.ok (257, nx #[h]) w := by kernel_rfl
theorem fT(h : AQ)(w : wv): (Go.method 442 244 (nx #[h]) "Implements").run AW w=.ok (258, nx #[h]) w := by kernel_rfl
theorem eX(h : AQ)(w : wv): (Go.method 442 244 (nx #[h]) "AssignableTo").run AW w=.ok (255, nx #[h]) w := by kernel_rfl
theorem zA(w:wv):(ReflectliteType.method ReflectliteType.elem #[nx #[N (I ⟨4,168,O⟩)]]).run AW w=.ok (.iface 244 (nx #[N (I ⟨4,166,O⟩)])) w:=by kernel_rfl
theorem nh(w : wv): (ReflectliteType.relation "Implements" ReflectliteType.implements_ #[nx #[N (I ⟨4, 166, O⟩)], .iface 244 (nx #[N (I ⟨4, 123, O⟩)])]).run AW w=.ok (.bool true) w := by kernel_rfl
theorem vz(v:AQ)(w:wv):(ReflectliteType.typeOf #[.iface 166 v]).run AW w=.ok (.iface 244 (nx #[N (I ⟨4,166,O⟩)])) w:=by kernel_rfl
theorem nG(w : wv): (ReflectliteType.relation "AssignableTo" ReflectliteType.assignableTo #[nx #[N (I ⟨4, 166, O⟩)], .iface 244 (nx #[N (I ⟨4, 166, O⟩)])]).run AW w=.ok (.bool true) w := by kernel_rfl
theorem sO(e:Int)(w:wv):(ReflectliteValue.unpack (.iface 166 (nx #[U R e]))).run AW w
 =.ok (nx #[N (I ⟨4,166,O⟩),N (I ⟨w.1.size,0,O⟩),U .u64 153]) (w.alloc (qj #[U R e] 166)):=by kernel_rfl
theorem wz(w:wv):(Rtype.elem? 168).run AW w=.ok (I 166) w:=by kernel_rfl
theorem mkS(p:Addr)(w:wv):(ReflectliteValue.mk 166 p ReflectliteValue.flagAddr).run AW w=.ok (nx #[N (I ⟨4,166,O⟩),N (I p),U .u64 409]) w:=by kernel_rfl
theorem yx(a p:Addr)(W:wv)(o:W.cell? a=I (N (I p))):
  (ReflectliteValue.method (ReflectliteValue.valueError "reflectlite.Value.Elem" 0) ReflectliteValue.elem #[nx #[N (I ⟨4, 168, O⟩), N (I a), U .u64 150]]).run AW W
  =.ok (nx #[N (I ⟨4,166,O⟩),N (I p),U .u64 409]) W:=by
 rw[wX];simp only[Sem.run_bind,tr,Result.andThen];simp[ReflectliteValue.elem,loadVar,isAgg,underlying,underlying168,o,Result.andThen,wz,mkS]
theorem yS(v x:AQ):ReflectliteValue.set #[v,x]=(do
  let (I (dst,a,fl),I (src,b,_)):=(<-ReflectliteValue.parts v,<-ReflectliteValue.parts x)
   |unsupported (.noEntry "extern/(internal/reflectlite.Value).Set.zeroValue")
  if fl / ReflectliteValue.flagAddr % 2==0 then unsupported (.noEntry "extern/(internal/reflectlite.Value).Set.unaddressable")
  let val <-loadVar src b
  if <-Rtype.directlyAssignable dst src then storeVar dst a val
  else if <-Rtype.implements dst src then
   if (<-Rtype.kind src)==20 then
    match val with
    |.nilIface=>unsupported (.noEntry "extern/reflectlite: a nil value of one interface type handed on as a value of another")
    |_=>storeVar dst a val
   else storeVar dst a (.iface src val)
  else panicString ("reflectlite.Set: value of type "++(<-Rtype.spelt src)++ " is not assignable to type "++(<-Rtype.spelt dst))
  pure (oq #[])):=rfl
theorem vK(a:Addr)(w:wv):(ReflectliteValue.parts (nx #[N (I ⟨4,166,O⟩),N (I a),U .u64 409])).run AW w=.ok (I (166,a,409)) w:=by kernel_rfl
theorem xK(a:Addr)(w:wv):(ReflectliteValue.parts (nx #[N (I ⟨4,166,O⟩),N (I a),U .u64 153])).run AW w=.ok (I (166,a,153)) w:=by kernel_rfl
theorem wC(w:wv):(Rtype.directlyAssignable 166 166).run AW w=.ok true w:=by kernel_rfl
theorem setS(o b:Nat)(e:Int)(old:AQ)(W:wv)(hb:W.cell? ⟨b,0,O⟩=I (U R e))(D:W.cell? ⟨o,0,O⟩=I old)(y:W.frozen? ⟨o,0,O⟩=wx):
  (ReflectliteValue.set #[nx #[N (I ⟨4,166,O⟩),N (I ⟨o,0,O⟩),U .u64 409],nx #[N (I ⟨4,166,O⟩),N (I ⟨b,0,O⟩),U .u64 153]]).run AW W
  =.ok (oq #[]) (W.setCell ⟨o,0,O⟩ (U R e)):=by
 rw[yS];simp only[Sem.run_bind,vK,xK,Result.andThen];have A:(loadVar 166 ⟨b,0,O⟩).run AW W=.ok (nx #[U R e]) W:=by
  simp[loadVar,isAgg,underlying,underlying166,loadCells,loadCellsFrom,Addr.add,hb,Result.andThen]
 simp[ReflectliteValue.flagAddr,A,Result.andThen,wC,storeVar,Value.cells,storeCells,Addr.add];rw[run_store AW W ⟨o,0,O⟩ _ _ (by rfl)];simp[D,y]
theorem uR(x:Int)(t:Nat)(old:AQ)(w:wv)(o:He w)(A:w.cell? ⟨t,0,O⟩=I old)(J:w.frozen? ⟨t,0,O⟩=wx):
  AZ AW 90 #[.iface 166 (nx #[U R x]),.iface 168 (N (I ⟨t,0,O⟩))] w fun E w'=>E=qz (.bool true)∧w'=((((w.alloc (qj #[N (I ⟨t,0,O⟩)] 168)).alloc (qj #[N (I ⟨4,168,O⟩),N (I ⟨w.1.size,0,O⟩),U .u64 150] 202)).alloc (qj #[N (I ⟨4,168,O⟩),N (I ⟨w.1.size,0,O⟩),U .u64 150] 202)).alloc (qj #[U R x] 166)).setCell ⟨t,0,O⟩ (U R x):=by
 unfold He at o;have aw:=@run_callFunc_extern AW 121 _ (fun args=>ReflectliteValue.unpack (args.getD 0 (oq #[]))) func121 (by kernel_rfl) (by kernel_rfl) (by kernel_rfl) (by kernel_rfl);have a0 := @run_callFunc_extern AW 122 _ (ReflectliteValue.methodAny (ReflectliteValue.valueError "reflectlite.Value.Type" 0) (fun t _ _ _=>ReflectliteType.toType t)) func122 (by kernel_rfl) (by kernel_rfl) (by kernel_rfl) (by kernel_rfl);have a1 := @run_callFunc_extern AW 123 _ (ReflectliteValue.method (ReflectliteValue.valueError "reflectlite.Value.IsNil" 0) ReflectliteValue.isNil) func123 (by kernel_rfl) (by kernel_rfl) (by kernel_rfl) (by kernel_rfl);have ah:=@run_callFunc_extern AW 235 _ (ReflectliteType.abiMethod fun t=>do pure (U .u8 (<-Rtype.kind t))) func235 (by kernel_rfl) (by kernel_rfl) (by kernel_rfl) (by kernel_rfl);have ak:=@run_callFunc_extern AW 257 _ (ReflectliteType.method ReflectliteType.elem) func257 (by kernel_rfl) (by kernel_rfl) (by kernel_rfl) (by kernel_rfl);have an := @run_callFunc_extern AW 258 _ (ReflectliteType.relation "Implements" ReflectliteType.implements_) func258 (by kernel_rfl) (by kernel_rfl) (by kernel_rfl) (by kernel_rfl);have X:=@run_callFunc_extern AW 155 _ ReflectliteType.typeOf func155 (by kernel_rfl) (by kernel_rfl) (by kernel_rfl) (by kernel_rfl);have aj := @run_callFunc_extern AW 255 _ (ReflectliteType.relation "AssignableTo" ReflectliteType.assignableTo) func255 (by kernel_rfl) (by kernel_rfl) (by kernel_rfl) (by kernel_rfl)
 have Z := @run_callFunc_extern AW 156 _ (ReflectliteValue.method (ReflectliteValue.valueError "reflectlite.Value.Elem" 0) ReflectliteValue.elem) func156 (by kernel_rfl) (by kernel_rfl) (by kernel_rfl) (by kernel_rfl);have ab:=@run_callFunc_extern AW 157 _ ReflectliteValue.set func157 (by kernel_rfl) (by kernel_rfl) (by kernel_rfl) (by kernel_rfl);have bc:=vz;have a6:=eX;have L:=nG;have be:=sO;have S:=sP;have V:=yH;have a9:=lq;have a7:=lu;have a8:=fT;have a5:=zh;have a4:=zf;have M:=zA;have a3:=nh;have n8:=yg ⟨w.1.size,0,O⟩ ⟨t,0,O⟩ ((w.alloc (qj #[N (I ⟨t,0,O⟩)] 168)).alloc (qj #[N (I ⟨4,168,O⟩),N (I ⟨w.1.size,0,O⟩),U .u64 150] 202)) (by simp);have y:1<w.1.size:=by
  rcases Nat.lt_or_ge 1 w.1.size with h | h
  ·exact h
  ·simp[World.cell?,Array.getElem?_eq_none h] at o
 have a2:((w.alloc (qj #[N (I ⟨t,0,O⟩)] 168)).alloc (qj #[N (I ⟨4,168,O⟩),N (I ⟨w.1.size,0,O⟩),U .u64 150] 202)).cell? ⟨1,0,O⟩=I (.iface 244 (nx #[N (I ⟨4,123,O⟩)])):=by
  rw[World.cell?_alloc_lt _ _ ⟨1,0,O⟩ (AF y (by simp)),World.cell?_alloc_lt _ _ ⟨1,0,O⟩ y];exact o
 have D:t<w.1.size:=by
  rcases Nat.lt_or_ge t w.1.size with h | h
  ·exact h
  ·simp[World.cell?,Array.getElem?_eq_none h] at A
 have Q:=yx ⟨w.1.size,0,O⟩ ⟨t,0,O⟩ (((w.alloc (qj #[N (I ⟨t,0,O⟩)] 168)).alloc (qj #[N (I ⟨4,168,O⟩),N (I ⟨w.1.size,0,O⟩),U .u64 150] 202)).alloc (qj #[N (I ⟨4,168,O⟩),N (I ⟨w.1.size,0,O⟩),U .u64 150] 202)) (by rw[World.cell?_alloc_lt _ _ ⟨w.1.size,0,O⟩ (by simp;omega)];simp)
 have bb:=setS t (w.1.size+1+1+1) x old ((((w.alloc (qj #[N (I ⟨t,0,O⟩)] 168)).alloc (qj #[N (I ⟨4,168,O⟩),N (I ⟨w.1.size,0,O⟩),U .u64 150] 202)).alloc (qj #[N (I ⟨4,168,O⟩),N (I ⟨w.1.size,0,O⟩),U .u64 150] 202)).alloc (qj #[U R x] 166))
  (by rw[World.cell?_alloc_at _ _ _ _ (by simp)];rfl)
  (by rw[World.cell?_alloc_lt _ _ ⟨t,0,O⟩ (by simp;omega),World.cell?_alloc_lt _ _ ⟨t,0,O⟩ (by simp;omega),World.cell?_alloc_lt _ _ ⟨t,0,O⟩ (by simp;omega),World.cell?_alloc_lt _ _ ⟨t,0,O⟩ D];exact A)
  (by rw[World.frozen?_alloc_old _ _ ⟨t,0,O⟩ (by simp;omega),World.frozen?_alloc_old _ _ ⟨t,0,O⟩ (by simp;omega),World.frozen?_alloc_old _ _ ⟨t,0,O⟩ (by simp;omega),World.frozen?_alloc_old _ _ ⟨t,0,O⟩ (Nat.ne_of_lt D)];exact J)
 go_enter func90,ntmps90;go_wp2;refine wp_loop_rounds 1 ?_;rw[rounds_succ];go_wp2;go_ret;exact⟨rfl,rfl⟩
theorem He.on(h:He w)(hb:AX w.1.size w w'):He w':=by
 unfold He at *
 have y:1<w.1.size:=by
  rcases Nat.lt_or_ge 1 w.1.size with o | o
  ·exact o
  ·simp[World.cell?,Array.getElem?_eq_none o] at h
 unfold World.cell? at *
 rw[hb.block _ y];exact h
theorem r7(w:wv):AZ AW 62 #[.nilIface] w fun e w'=>e=qz (U R 0)∧AX w.1.size w w':=by
 go_enter func62,ntmps62;go_wp2_with (first | (go_at_call 90;refine(uQ _ _).mono ?_;rintro e w' ⟨rfl,rfl⟩));go_ret;exact⟨rfl,gQy⟩
theorem kS(x:Int)(w:wv)(y:He w):AZ AW 62 #[.iface 166 (nx #[U R x])] w fun e w'=>e=qz (U R x)∧AX w.1.size w w':=by
 have A:He (w.alloc (qj #[U R 0] 166)):=y.on gQy;have D:(w.alloc (qj #[U R 0] 166)).cell? ⟨w.1.size,0,O⟩=I (U R 0):=by simp
 have o:(w.alloc (qj #[U R 0] 166)).frozen? ⟨w.1.size,0,O⟩=false:=by simp
 have H:=uR x w.1.size _ _ A D o;clear A D o y;go_enter func62,ntmps62;go_wp2_with (first | (go_at_call 90;refine H.mono ?_;rintro e w' ⟨rfl,rfl⟩));go_ret;exact⟨rfl,(((gQy.alloc (by simp) _).alloc (by simp;omega) _).alloc (by simp;omega) _).alloc (by simp;omega) _⟩
end
section
open Go.RowKit
theorem oY(a:Int)(p:OA)(c:Nat)(l:L8)(aw:l.length<=140737488351232)(a0:l.length<=c)(w:wv)(ah:Hv w)(h:At w p l):
  AZ AW 154 #[nx #[U R a,mA p l.length c]] w fun e w'=>e=qz (.bool (Rp.isF l))∧AX w.1.size w w':=by
 obtain⟨W,S⟩:∃W,W=w.alloc (qj #[U R a,mA p l.length c] 240):=⟨_,rfl⟩;have M:AX w.1.size w W:=by rw[S];exact gQy
 have J:=gQq (qt p c l aw a0 W (ah.next M) (h.on M));have E:=gQq M;have ak:=gQq S.symm
 have y:Hid (Rp.isF l=match Fr.dec l with
  |.ok _=>true
  |qx _=>wx):=rfl
 have L:Hid (∀o,Fr.dec l=qx o->o≠0):=fun o an=>jG an;obtain⟨r,Z⟩:∃r,r=Fr.dec l:=⟨_,rfl⟩;rw[<-Z] at J y L;obtain⟨z,aj⟩:∃z,z=Rp.isF l:=⟨_,rfl⟩;rw[<-aj] at y ⊢;clear ah h Z aj M S;go_enter func154,ntmps154;go_wp2_with fail;rw[ak.out];refine J.out.mono ?_;intro e w1 V;cases r with
 |error o=>
  obtain⟨rfl,D⟩:e=qz (oq #[nx #[U R 0,U R 0,mA O 0 0,U R 0,U R 0,U R 0,mA O 0 0,U R 0,U R 0,U R 0,mA O 0 0],U R (o:Nat)])∧AX W.1.size W w1:=V;have a1:=L.out o rfl;have a6:((o:Int)==0)=false:=by rw[AM];omega
  have Q:Hid (z=wx):=y.out;have A:=gQq (E.out.trans (D.mono E.out.size));clear a1 D J L y;go_wp2;go_ret;exact⟨by rw[Q.out];rfl,A.out.alloc A.out.size _⟩
 |ok f=>
  obtain⟨u,rfl,X,D⟩:∃u,e=qz (oq #[nx u,U R 0])∧eM w1 W.1.size u f∧AX W.1.size W w1:=V;obtain⟨sp,a7,a3,a2,a5,a4,ab,-⟩:=X.out;unfold aH at ab;subst ab;have Q:Hid (z=true):=y.out;have A:=gQq (E.out.trans (D.mono E.out.size));clear X D J L y;go_wp2;go_ret;exact⟨by rw[Q.out];rfl,A.out.alloc A.out.size _⟩
def kV(w:wv)(p:OA)(rs:List Run):Prop:=∀j (hj:j<rs.length),∃g,p=I ⟨g,0,O⟩∧w.cell? ⟨g,j*2,O⟩=I (U R rs[j].1)∧∃q c,w.cell? ⟨g,j*2+1,O⟩=I (mA q rs[j].2.length c)∧At w q rs[j].2∧rs[j].2.length<=c
theorem bF.readF{B:Nat}{q:OA}{n c:Nat}{J:List Nat}{y:List Run}(h:bF w B (mA q n c) J y):kV w q y:=by
 obtain⟨us,V,a6,X⟩:=h.out;intro j an;rcases V.2 with ⟨_,a1⟩ | ⟨g,cap,a0,ak,a2,Z,a3,a4,a5,ab⟩
 ·omega
 ·injection ak with A _ _;subst A;obtain⟨S,L,A,M,Q,o⟩:=X j an;have D:∀m v,m<y.length*2->us[m]?=I v->w.cell? ⟨g,m,O⟩=I v:=fun m v o E=>by
   rw[<-ab,List.getElem?_take_of_lt o] at E;simp only[World.cell?,Z];simpa using E
  obtain⟨p2,c2,aw,ah,aj⟩:=o.has.at;injection aw with i1 _ i3;subst i1;subst i3;exact⟨g,rfl,D _ _ (by omega) M,I ⟨S,0,O⟩,L,D _ _ (by omega) Q,ah,aj⟩
theorem kV.on{p:OA}{o:List Run}(h:kV w p o)(hb:AX w.1.size w w'):kV w' p o:=fun j L=>by
 obtain⟨g,y,A,q,c,D,E,J⟩:=h j L;exact⟨g,y,ae hb A,q,c,ae hb D,E.on hb,J⟩
theorem ng(p:OA)(c:Nat)(o:List Run)(a9:o.length<=100000000)(ak:∀r∈o,r.2.length<=2200)(w:wv)(an:Hv w)(h:kV w p o):
  AZ AW 176 #[mA p o.length c,.func (.func 154) #[] #[]] w fun e w'=>∃k:Int,e=qz (U R k)∧(decide (0<=k)=o.any fun r=>Rp.isF r.2)∧AX w.1.size w w':=by
 have a0:=gQq h;have a2:=gQq an;have a1:=gQq ak;clear h an ak;go_enter func176,ntmps176;go_wp2_with fail;go_loopw [8] (fun S wr=>∃j:Nat,j<=o.length∧S=U R j∧Hid (AX w.1.size w wr∧∀m (A:m<o.length),m<j->Rp.isF o[m].2=wx)) (fun S _=>o.length-(intOf S).toNat);case atStart=>exact⟨0,Nat.zero_le _,rfl,gQz,fun m _ h=>by omega⟩
 case round=>
  obtain⟨j,a8,rfl,y⟩:=hrel;by_cases L:j<o.length
  ·have a3:(j:Int)<(o.length:Int):=(by omega);obtain⟨g,a6,a4,q,d,a5,Z,ab⟩:=(a0.out.on y.out.1) j L;subst a6;have E:=oY o[j].1 q d o[j].2 (by have:=a1.out o[j] (AL L);omega) ab wr (a2.out.next y.out.1) Z;obtain⟨z,Q⟩:∃z,z=Rp.isF o[j].2:=⟨_,rfl⟩;obtain⟨n,M⟩:∃n,n=o[j].2.length:=⟨_,rfl⟩;obtain⟨a,J⟩:∃a,a=o[j].1:=⟨_,rfl⟩;rw[<-Q,<-M,<-J] at E;rw[<-M] at a5;rw[<-J] at a4;have X:=gQq E;have D:=gQq Q;clear E Q M J Z ab;go_wp2_with fail;refine X.out.mono ?_;rintro e w1 ⟨rfl,aj⟩;have V:=gQq (y.out.1.trans (aj.mono y.out.1.size));clear aj X;cases z with
   |true=>
    go_wp2;go_ret;refine⟨(j:Int),rfl,?_,V.out⟩;rw[AE (by omega)];exact(List.any_eq_true.2 ⟨o[j],AL L,D.out.symm⟩).symm
   |false=>
    have aw:Hid (AX w.1.size w w1∧∀m (A:m<o.length),m<j+1->Rp.isF o[m].2=wx):=⟨V.out,fun m A h=>by
     rcases Nat.lt_or_ge m j with ah | ah
     ·exact y.out.2 m A ah
     ·obtain rfl:m=j:=by omega
      exact D.out.symm⟩
    clear y D;go_wp2;go_roundw;case rel=>exact⟨j+1,by omega,by go_num,aw⟩
    case measure=>simp[intOf];omega
  ·have a3:¬(j:Int)<(o.length:Int):=(by omega);go_wp2;go_ret;refine⟨-1,rfl,?_,y.out.1⟩;rw[AD (by omega)];symm;rw[List.any_eq_false];intro r a7;obtain⟨m,A,rfl⟩:=List.mem_iff_getElem.1 a7;rw[y.out.2 m A (by omega)];simp
theorem jH(p:OA)(c:Nat)(o:List Run)(M:o.length<=100000000)(D:∀r∈o,r.2.length<=2200)(w:wv)(E:Hv w)(h:kV w p o):
  AZ AW 152 #[mA p o.length c,.func (.func 154) #[] #[]] w fun e w'=>e=qz (.bool (o.any fun r=>Rp.isF r.2))∧AX w.1.size w w':=by
 have y:=gQq (ng p c o M D w E h);clear D E h;go_enter func152,ntmps152;go_wp2_with fail;refine y.out.mono ?_;rintro e w1 ⟨k,rfl,A,hb⟩;have L:=gQq A;have J:=gQq hb;clear A hb y;go_wp2;go_ret;exact⟨by rw[<-L.out];rfl,J.out⟩
end
section
open Go.RowKit Go.Maps
def wP(w:wv)(B g:Nat)(v:AQ)(s:Dv.St)(x k:Nat)(G:Nat->Prop)(J:Nat)(wk:Wk)(e:Ending)(w':wv):Prop :=
 ∃v' g' t,e=qz (oq #[N (I ⟨w.1.size+1,0,O⟩),U R (Rp.kept s.b J:Nat)])∧av w' w.1.size (w.1.size+1) w.1.size J v' g' wk G∧t<=s.told+1000000000∧ax w' B g v { s with told:=t } x k∧Aside (fun i=>i=g) w w'
section
variable {w:wv} {B g x k:Nat} {v:AQ} {s:Dv.St} {G:Nat->Prop}
theorem vU(h:ax w B g v s x k)(hd:s.down=wx)(fx:s.b.length<=2097152)(gm:s.told<=1000000000000000)(eq:Hv w)(b1:2<B)(c9:B<=w.1.size)(dr:∀i,i=g∨v.ownBlock=I i->G i)(b3:∀i,G i->i<w.1.size){J:Nat}{X:Sc.Pos}(cb:Sc.goes s.b J=I X):
  AZ AW 119 #[N (I ⟨g,0,O⟩),U R (X.at_:Nat)] w (wP w B g v s x k G J X.wk):=by
 have cx:=gQq (tU w G b3);have cr:=gQq h;have cs:=gQq eq;have cq:=gQq dr;have f3:=gQq b3;have fs:=h.lt;have gd:=h.base;have ez:=gQq hd;have a9:=gQq cb;have e9:=(Sc.goes_good cb).2.1;obtain⟨E,b2⟩:∃E,E=X.at_:=⟨_,rfl⟩;rw[<-b2] at e9 ⊢;have cp:=gQq b2;have f9:(E:Int)<=2097152:=by omega
 clear h eq dr b3 hd cb b2;go_enter func119,ntmps119;go_wp2_with fail;refine cx.out.mono ?_;rintro e w1 ⟨rfl,Q,hb1,fy⟩;have eC:Hid (WhI w w1 B g x k v s G 0 Sc.begin_):=⟨cr.out.below hb1,⟨_,_,Q⟩,af hb1 _,rfl⟩;clear Q hb1 fy cx cr;go_wp2_with fail;go_loopw [7,8] (fun cj f2 wr=>∃j Y,j<=J∧cj=U R (Sc.Pos.at_ Y:Nat)∧f2=U R (Rp.kept s.b j:Nat)∧Hid (WhI w wr B g x k v s G j Y)) (fun cj _ _=>s.b.length-(intOf cj).toNat);case atStart=>exact⟨0,Sc.begin_,Nat.zero_le _,rfl,rfl,eC⟩
 case round=>
  obtain⟨j,Y,gh,rfl,rfl,y⟩:=hrel;obtain⟨fq,fo,e8,gl⟩:=Sc.goes_good y.out.goes;obtain⟨v',c8,a5⟩:=y.out.walk;have fv:=Rp.kept_le y.out.goes;obtain⟨K,a1⟩:∃K,K=Rp.kept s.b j:=⟨_,rfl⟩;obtain⟨D,aj⟩:∃D,D=Y.at_:=⟨_,rfl⟩;rw[<-a1,<-aj] at fv;rw[<-a1,<-aj];rw[<-aj] at fo e8;have gb:(K:Int)<=2097152:=by omega
  have f7:(D:Int)<=2097152:=by omega
  have cu:=gQq a1;have V:=gQq aj;clear a1 aj fq;by_cases cd:j<J
  ·obtain⟨Z,b4⟩:=Rp.goes_pre (j:=j+1) a9.out (by omega);have eg:=Rp.goes_le y.out.goes a9.out (Nat.le_of_lt cd);rw[<-V.out,<-cp.out] at eg;have e6:(D:Int)<(E:Int):=(by omega);obtain⟨f4,a3,en⟩:=Sc.goes_pred b4;rw[y.out.goes] at a3;injection a3 with a3;subst a3;obtain⟨f,aw,el,ew,em⟩:=Sc.step_ok en;obtain⟨e2,e3,e4,ev,c7,fc,e5⟩:=Sc.at_ok aw;have ec:=Rp.kept_succ y.out.goes aw;have df:=kAt y.out.dev ez.out fx (by show s.told+Y.read+s.b.length<=_;omega) (cs.out.on (y.out.aside.below c9 (fun i o b7=>by omega)) b1) b1 (Y.at_:Nat);have dj:AZ AW 13 #[N (I ⟨g,0,O⟩),U R (D:Nat)] wr fun e w'=>AtA (.ok (f,Z.at_)) wr e w'∧ax w' B g v { s with told:=s.told+Z.read } x k∧Aside (fun k=>k=g) wr w':=by
    rw[V.out,<-aw,em,<-Nat.add_assoc];exact df
   have a8:=gQq dj;have be:=gQq a5;obtain⟨C,a0⟩:∃C,C=Z.at_:=⟨_,rfl⟩;rw[<-a0] at a8 fc;have f6:D<C:=(by rw[a0,c7,<-V.out];simp;omega);have a7:=gQq a0;have bb:Hid (Sc.may Y.wk f (D:Nat)=true):=(by show _=_;rw[V.out];exact el);have c5:Hid (Sc.next Y.wk f (D:Nat)=Z.wk):=by
    show _=_;rw[ew];unfold Sc.next;rw[bb.out,AK rfl,V.out]
   have e1:=gQq b4;have cw:=gQq ec;have e0:=gQq ev;clear df dj a5 el ew em aw e2 e3 e4 c7 e5 a0 en b4 ec ev eg;go_wp2_with fail;refine a8.out.mono ?_;rintro e A ⟨fi,ea,has⟩;have an:av A w.1.size (w.1.size+1) w.1.size j v' c8 Y.wk G:=be.out.aside (has.mono fun i _ o=>cq.out i (.inl o)) (fun i o=>.inl o) (fun i o=>AF (be.out.low i o) has.size);have ak:Aside (fun i=>i=g) w A:=y.out.aside.trans has (fun _ _ h=>h);obtain⟨u,rfl,b9⟩:∃u,e=qz (oq #[nx u,U R (C:Nat),U R 0])∧eM A wr.1.size u f:=fi;have b8:=b9.lies;obtain⟨sp,ci,bT,bO,b0,bX,ep,-⟩:=b9.out;unfold aH at ep;subst ep;obtain⟨L,b6⟩:∃x,x=f.kind:=⟨_,rfl⟩;obtain⟨bi,hb1⟩:∃x,x=f.number:=⟨_,rfl⟩;obtain⟨bk,d6⟩:∃x,x=f.cols.length:=⟨_,rfl⟩;obtain⟨bl,dv⟩:∃x,x=f.seq:=⟨_,rfl⟩;obtain⟨bn,d0⟩:∃x,x=f.first:=⟨_,rfl⟩;obtain⟨bp,d1⟩:∃x,x=f.rows:=⟨_,rfl⟩;obtain⟨bq,d2⟩:∃x,x=f.block.length:=⟨_,rfl⟩;obtain⟨bs,d3⟩:∃x,x=f.index.at_:=⟨_,rfl⟩;obtain⟨bv,d4⟩:∃x,x=f.index.frames:=⟨_,rfl⟩;obtain⟨bN,d5⟩:∃x,x=f.index.rows:=⟨_,rfl⟩;obtain⟨bj,du⟩:∃x,x=f.index.entries.length:=⟨_,rfl⟩;rw[<-b6,<-hb1,<-d6,<-dv,<-d0,<-d1,<-d2,<-d3,<-d4,<-d5,<-du] at b8 ⊢;obtain⟨S,a4⟩:∃S,S=A.alloc (qj #[U R L,U R bi,mA sp bk ci,U R bl,U R bn,U R bp,mA bT bq bO,U R bs,U R bv,U R bN,mA b0 bj bX] 52):=⟨_,rfl⟩;have M:AX A.1.size A S:=by rw[a4];exact gQy
   have d7:S.1[A.1.size]?=I (qj #[U R L,U R bi,mA sp bk ci,U R bl,U R bn,U R bp,mA bT bq bO,U R bs,U R bv,U R bN,mA b0 bj bX] 52):=(by rw[a4];exact am A _);have c6:Hid (A.alloc (qj #[U R L,U R bi,mA sp bk ci,U R bl,U R bn,U R bp,mA bT bq bO,U R bs,U R bv,U R bN,mA b0 bj bX] 52)=S):=a4.symm;have cc:=an.on M;have er:Hv S:=cs.out.on ((ak.below c9 (fun i o b7=>by omega)).trans (M.mono (by have:=ak.size;omega))) b1;have bc:=gQq (tT cc f e0.out _ (b8.on M) (D:Nat) er (by omega) (by have:=ak.size;have:=M.size;omega));rw[bb.out,c5.out,AK rfl] at bc;have cv:=gQq cc;have co:=gQq (ea.below M);have ck:Hid (Aside (fun i=>i=g) w S):=ak.trans (af M (fun i=>i=g)) (fun _ _ h=>h);have a6:=gQq d7;have cy:Hid (∀i,bz (w.1.size+1) w.1.size v' i->i<A.1.size):=fun i o=>by
    rcases o with o | o | o
    ·rw[o];exact an.lt
    ·rw[o];exact an.map.lt
    ·exact(an.ents.lt i o).2
   have cn:=gQq b6;have f8:(C:Int)<=2097152:=(by omega);clear b9 b8 an ea ak has cc er M a4 d7 bb c5 a8 be b6 hb1 d6 dv d0 d1 d2 d3 d4 d5 du;go_wp2_with fail;rw[c6.out];refine bc.out.mono ?_;rintro e w4 ⟨rfl,gn,f5,eb,b5,f0⟩;obtain⟨d9,ds⟩:=WhI.after co.out cv.out ck.out b5 cq.out fs;have d8:=(b5.block _ (ap a6.out) (fun b7=>absurd (cy.out _ b7) (Nat.lt_irrefl _))).trans a6.out;have c0:w4.cell? ⟨A.1.size,0,O⟩=I (U R L):=aa d8 0;have ct:Hid (WhI w w4 B g x k v s G (j+1) Z):=⟨d9,⟨_,_,eb⟩,ds,e1.out⟩;clear eb b5 f0 d9 ds bc cv co ck c6 a6 cy d8;by_cases Q:L=1
   ·have e7:(L != 1)=false:=(by rw[Q];rfl);go_wp2;go_roundw;case rel=>exact⟨j+1,Z,cd,by rw[<-a7.out],by rw[cw.out,AK (by rw[<-cn.out];exact Q),cu.out],ct⟩
    case measure=>simp[intOf];omega
   ·have e7:(L != 1)=true:=(by rw[bne_iff_ne];exact Q);go_wp2;go_roundw;case rel=>exact⟨j+1,Z,cd,by rw[<-a7.out],by rw[cw.out,AJ (by rw[<-cn.out];exact Q),a7.out],ct⟩
    case measure=>simp[intOf];omega
  ·obtain rfl:j=J:=by omega
   have a2:=y.out.goes;rw[a9.out] at a2;injection a2 with a2;subst a2;have e6:¬(D:Int)<(E:Int):=(by have:=V.out;have:=cp.out;omega);have eL:=gQq a5;clear a5;go_wp2;go_ret2;exact⟨v',c8,s.told+X.read,by rw[<-cu.out];rfl,eL.out,by omega,y.out.dev,y.out.aside⟩
end
end
section
open Go.RowKit Go.Maps
section
variable {w:wv} {B g x k:Nat} {v:AQ} {s:Dv.St}
theorem qP(s:Dv.St)(p:Nat)(o:p<=s.b.length):Dv.read s (p:Nat) ((s.b.length:Int)-(p:Int))=(s.b.drop p,0,{ s with told:=s.told+(s.b.length-p) }):=by
 unfold Dv.read;rw[AJ (by omega)];have e:(s.b.drop ((p:Nat):Int).toNat).take ((s.b.length:Int)-(p:Int)).toNat=s.b.drop p:=by
  rw[Int.toNat_natCast,List.take_of_length_le (by rw[Aj];omega)]
 simp only[e,Aj]
theorem oR(h:ax w B g v s x k)(bc:s.b.length<=2097152)(bN:s.told<=1000000000000000)(ak:Hv w)(a8:2<B)(p:Nat)(bi:p<=s.b.length):
  AZ AW 118 #[N (I ⟨g,0,O⟩),U R (p:Nat)] w fun e w'=>e=qz (.bool (Rp.bad s.b p))∧ax w' B g v { s with told:=s.told+(s.b.length-p) } x k∧Aside (fun i=>i=g) w w':=by
 have M:=gQq (j9 h);have o:=xn h (p:Nat) ((s.b.length:Int)-(p:Int)) (by omega) (by omega) (by omega) bc (by omega);rw[qP s p bi] at o;have bj:(s.b.drop p).length<=s.b.length:=by rw[Aj];omega
 obtain⟨l,J⟩:∃l,l=s.b.drop p:=⟨_,rfl⟩;have V:Hid (Rp.bad s.b p=(Sp.of l).out.any fun r=>Rp.isF r.2):=by show _=_;rw[J];rfl
 rw[<-J] at o bj;have Q:=gQq o;obtain⟨z,a0⟩:∃z,z=Rp.bad s.b p:=⟨_,rfl⟩;rw[<-a0] at V ⊢;have a5:=gQq ak;have bv:=h.lt;have bp:=h.base;clear h ak o J a0;go_enter func118,ntmps118;go_wp2_with fail;refine M.out.mono ?_;rintro e w' ⟨rfl,aw⟩;rw[aw];clear aw w' M;go_wp2_with fail;refine Q.out.mono ?_;rintro e w1 ⟨q,cap,rfl,ah,ab,D⟩;have an:Hv w1:=a5.out.on (D.below (B:=B) (by omega) (fun i bs bq=>by omega)) a8;obtain⟨bO,c2,bb,X,a9⟩:=ah.at;injection bb with e1 _ e3;subst e1;subst e3;have S:=gQq (yR w1 q cap l X (by omega));have a3:=gQq ab;have a1:=gQq D;have a6:=gQq an;clear ah ab D an X a9 Q;go_wp2_with fail;refine S.out.mono ?_;rintro e bk ⟨qr,a7,bn,rfl,aj,E⟩;have be:=Sp.out_len l;have y:=gQq (jH qr a7 (Sp.of l).out (by omega) (Rp.of_small l) bk (a6.out.next E) aj.readF);have L:=gQq E;rw[<-V.out] at y;clear aj E S be;go_wp2_with fail;refine y.out.mono ?_;rintro e bl ⟨rfl,Z⟩;have A:=L.out.trans (Z.mono L.out.size);have a4:=gQq (a3.out.below A);have a2:Hid (Aside (fun i=>i=g) w bl):=a1.out.trans (af A (fun i=>i=g)) (fun _ _ h=>h);clear Z A y;go_wp2;go_ret;exact⟨rfl,a4.out,a2.out⟩
theorem He.aside{F:Nat->Prop}(h:He w)(A:Aside F w w')(y:¬F 1):He w':=by
 unfold He at *
 have D:1<w.1.size:=by
  rcases Nat.lt_or_ge 1 w.1.size with o | o
  ·exact o
  ·simp[World.cell?,Array.getElem?_eq_none o] at h
 unfold World.cell? at *
 rw[A.block _ D y];exact h
def zI(b:L8)(G:Nat->Prop)(fl:Nat->AQ)(nl:AQ)(w:wv)(r:Except Nat Nat)(e:Ending)(w':wv):Prop:=match r with
 |qx c=>e=qz (oq #[U R 0,N O,fl c])
 |.ok K=>∃a M B' n v' g' m y,e=qz (oq #[U R (K:Nat),N (I ⟨a,0,O⟩),nl])∧av w' B' a M n v' g' (Sc.Pos.wk y) G∧w.1.size<=B'∧Sc.goes b m=I y∧y.at_=K
def ik(c:Nat):Value:=.iface 166 (nx #[U R (c:Nat)])
theorem xZ(h:ax w B g v s x k)(hd:s.down=wx)(bO:s.b.length<=2097152)(eg:s.told<=100000000000000)(bX:Hv w)(hB:2<B){j A:Nat}{o:Sc.Pos}(ah:Sc.goes s.b j=I o)(bT:Sc.step s.b o=qx A):
  AZ AW 88 #[N (I ⟨g,0,O⟩)] w fun e w'=>zI s.b (fun i=>i=g∨v.ownBlock=I i) ik .nilIface w (Rp.look s.b j o.at_ A) e w'∧∃t,t<=s.told+4000000000∧ax w' B g v { s with told:=t } x k∧Aside (fun i=>i=g) w w':=by
 have df:=h.lt;have ec:=h.base;have bn:∀i,(i=g∨v.ownBlock=I i)->i<w.1.size:=fun i hi=>by
  rcases hi with hi | hi
  ·rw[hi];exact df
  ·exact(h.has.lt i hi).2
 have b6:=oQ (G:=fun i=>i=g∨v.ownBlock=I i) h hd bO (by omega) bX hB (by omega) (fun i hi=>hi) bn;have b7:AZ AW 10 #[N (I ⟨g,0,O⟩)] w fun e w'=>e=qz (oq #[N (I ⟨w.1.size+1,0,O⟩),U R (o.at_:Nat),U R (A:Nat)])∧ax w' B g v { s with told:=s.told+o.read+Sc.reads s.b o.at_ } x k∧Aside (fun i=>i=g) w w':=by
  refine b6.mono ?_;rintro e w' ⟨eq,d4,d5,v',a4,be,bi,bj,-,bk,c5⟩;obtain⟨-,rfl,rfl⟩:=Sc.goes_uniq ah bT be bi;exact⟨bj,bk,c5⟩
 have a1:=gQq b7;obtain⟨c7,b9,c6,ds⟩:=Sc.goes_good ah;have du:=Sc.reads_le s.b o.at_;have dr:=Rp.step_ne50 bT;have d8:((A:Int)==50)=false:=by rw[AM];omega
 obtain⟨m,y,dj,bv,b0,c9⟩:=Rp.kept_goes ah;have d0:=(Sc.goes_good bv).2.1;have b1:=gQq bv;have b5:=gQq b0;have ct:=gQq ah;have b2:=gQq bX;have cq:=gQq hd;have cs:=gQq bn;obtain⟨M,ci⟩:∃M,M=s.told+o.read+Sc.reads s.b o.at_:=⟨_,rfl⟩;have el:M<=s.told+1000000000:=by omega
 rw[<-ci] at a1;have E:Hid (Rp.look s.b j o.at_ A=if A≠140∧Rp.bad s.b o.at_=true then qx 150 else .ok (Rp.kept s.b j)):=rfl;have ak:Hid (∀w1,ax w1 B g v { s with told:=M } x k->Aside (fun i=>i=g) w w1->AZ AW 118 #[N (I ⟨g,0,O⟩),U R (o.at_:Nat)] w1 fun e w'=>e=qz (.bool (Rp.bad s.b o.at_))∧ax w' B g v { s with told:=M+(s.b.length-o.at_) } x k∧Aside (fun i=>i=g) w1 w'):=fun w1 S ha1=>oR S bO (by show M<=_;omega) (b2.out.on (ha1.below (B:=B) (by omega) (fun i hi ab=>by omega)) hB) hB o.at_ b9;have bc:Hid (∀w1 t J Z,t<=s.told+3000000000->ax w1 B g v { s with told:=t } x k->Aside (fun i=>i=g) w w1->Sc.goes s.b J=I Z->AZ AW 119 #[N (I ⟨g,0,O⟩),U R (Sc.Pos.at_ Z:Nat)] w1 fun e w'=>∃v' a4 a7,e=qz (oq #[N (I ⟨w1.1.size+1,0,O⟩),U R (Rp.kept s.b J:Nat)])∧av w' w1.1.size (w1.1.size+1) w1.1.size J v' a4 Z.wk (fun i=>i=g∨v.ownBlock=I i)∧a7<=t+1000000000∧ax w' B g v { s with told:=a7 } x k∧Aside (fun i=>i=g) w w'):=fun w1 t J Z ep S ha1 c8=>
  (vU (G:=fun i=>i=g∨v.ownBlock=I i) S cq.out bO (by show t<=_;omega) (b2.out.on (ha1.below (B:=B) (by omega) (fun i hi ab=>by omega)) hB) hB (by have:=ha1.size;omega) (fun i hi=>hi) (fun i hi=>AF (cs.out i hi) ha1.size) c8).mono (fun e w' ⟨v',a4,a7,be,bi,bj,cy,bk⟩=>⟨v',a4,a7,be,bi,bj,cy,ha1.trans bk (fun _ _ h=>h)⟩)
 obtain⟨L,bl⟩:∃L,L=o.at_:=⟨_,rfl⟩;rw[<-bl] at a1 E ak b9 ⊢;have cr:=gQq bl;have d9:(L:Int)<=2097152:=by omega
 obtain⟨K,a5⟩:∃K,K=Rp.kept s.b j:=⟨_,rfl⟩;rw[<-a5] at E;have bb:=gQq a5;have eb:K<=2097152:=by rw[a5,<-b0];omega
 have ea:(K:Int)<=2097152:=by omega
 clear h hd bX ah bT b6 b7 bn c7 c6 ds du dr bv b0 c9 dj bl a5 d0 ci;go_enter func88,ntmps88;go_wp2_with fail;refine a1.out.mono ?_;rintro e w1 ⟨rfl,S,ha1⟩;have an:=gQq S;have V:=gQq ha1;clear S ha1 a1;by_cases X:A=140
 case' pos=>
  have cx:((A:Int) != 140)=false:=by rw[bne_eq_false_iff_eq];omega
  have a0:Hid (Rp.look s.b j L A=.ok K):=by show _=_;rw[E.out,AJ (fun ab=>ab.1 X)]
  obtain⟨Q,a6⟩:∃Q,Q=w1:=⟨_,rfl⟩;obtain⟨D,aj⟩:∃D,D=M:=⟨_,rfl⟩;have dv:D<=s.told+2000000000:=by omega
  have aw:Hid (ax Q B g v { s with told:=D } x k):=by rw[a6,aj];exact an.out
  have a8:Hid (Aside (fun i=>i=g) w Q):=by rw[a6];exact V.out
  have cw:=gQq a6.symm;clear a6 aj ak an V E X;go_wp2_with fail
 case' neg=>
  have cx:((A:Int) != 140)=true:=by rw[bne_iff_ne];omega
  have a9:=gQq (ak.out w1 an.out V.out);obtain⟨z,ck⟩:∃z,z=Rp.bad s.b L:=⟨_,rfl⟩;rw[<-ck] at a9 E;clear ak ck;go_wp2_with fail;refine a9.out.mono ?_;rintro e Q ⟨rfl,bN,cb⟩;have a8:Hid (Aside (fun i=>i=g) w Q):=V.out.trans cb (fun _ _ h=>h);obtain⟨D,aj⟩:∃D,D=M+(s.b.length-L):=⟨_,rfl⟩;rw[<-aj] at bN;have dv:D<=s.told+2000000000:=by omega
  have aw:=gQq bN;clear bN cb aj a9 an V;rcases z with _ | _
  case' true=>
   have a0:Hid (Rp.look s.b j L A=qx 150):=(by show _=_;rw[E.out,AK ⟨X,rfl⟩]);clear E X;go_wp2
   go_ret3
   rw[a0.out];exact⟨rfl,D,by omega,aw.out,a8.out⟩
  case' false=>
   have a0:Hid (Rp.look s.b j L A=.ok K):=(by show _=_;rw[E.out,AJ (fun ab=>by cases ab.2)]);clear E X;go_wp2_with fail
 all_goals
  (first | rw[cw.out] | skip)
  have bp:=bc.out Q D j o (by omega) aw.out a8.out ct.out;rw[<-cr.out,<-bb.out] at bp;have b3:=gQq bp;clear bp aw;refine b3.out.mono ?_;rintro e d3 ⟨er,d6,d1,rfl,-,em,cc,bs⟩;have bq:=bc.out d3 d1 m y (by omega) cc bs b1.out;rw[b5.out,<-bb.out] at bq;have b4:=gQq bq;have co:=gQq bs;clear bq cc bs b3 bc;go_wp2_with fail;refine b4.out.mono ?_;rintro e w4 ⟨ev,d7,d2,rfl,cj,en,cd,b8⟩;have cv:=gQq cj;have cu:=gQq cd;have cp:=gQq b8;clear cj cd b8 b4;go_wp2
  go_ret3
  rw[a0.out];exact⟨⟨_,_,_,_,_,_,m,y,rfl,cv.out,co.out.size,b1.out,by rw[b5.out,bb.out]⟩,d2,by omega,cu.out,cp.out⟩
end
end
section
open Go.RowKit Go.Maps
theorem uz{s:Dv.St}(h:s.b.length=K):Rp.do_ s (.ok K)=(0,0,s):=by
 show(if _ then _ else _)=_;rw[AK h]
theorem yy{s:Dv.St}(h:¬s.b.length=K):Rp.do_ s (.ok K)=if (Dv.cut s K).1=0 then (s.b.length-K,0,(Dv.cut s K).2) else (0,(Dv.cut s K).1,(Dv.cut s K).2):=by
 show(if s.b.length=K then _ else _)=_;rw[AJ h]
theorem uG(s:Dv.St)(t:Nat)(n:Int):(Dv.cut { s with told:=t } n).1=(Dv.cut s n).1:=by
 unfold Dv.cut;have o:Dv.may { s with told:=t }=Dv.may s:=rfl;simp only[o];split
 ·rfl
 ·split
  ·rfl
  ·split <;> rfl
section
variable {w:wv} {B g x k:Nat} {v:AQ} {s:Dv.St}
def nu(c:Nat):Value:=if c=0 then .nilIface else ik c
theorem r8(c:Nat)(w:wv)(y:He w):AZ AW 62 #[nu c] w fun e w'=>e=qz (U R (c:Nat))∧AX w.1.size w w':=by
 unfold nu;by_cases o:c=0
 ·rw[AK o,o];exact r7 w
 ·rw[AJ o];exact kS (c:Nat) w y
def ve(w:wv)(B g:Nat)(v:AQ)(s:Dv.St)(r:Except Nat Nat)(w':wv):Prop :=
 ∃t v' x' k',t<=s.told+4000000000∧ax w' B g v' (Rp.do_ { s with told:=t } r).2.2 x' k'∧Aside (fun i=>i=g∨v.ownBlock=I i) w w'∧∀i,v'.ownBlock=I i->v.ownBlock=I i∨w.1.size<=i
theorem tY(h:ax w B g v s x k)(hd:s.down=wx)(aw:s.b.length<=2097152)(bN:s.safe<=s.b.length)(cc:s.done<4611686018427387904)(ci:s.told<=100000000000000)(bX:Hv w)(b9:2<B){j E:Nat}{o:Sc.Pos}(bp:Sc.goes s.b j=I o)(bO:Sc.step s.b o=qx E):
  AZ AW 61 #[N (I ⟨g,0,O⟩)] w fun e w'=>e=qz (oq #[U R ((Rp.do_ s (Rp.look s.b j o.at_ E)).1:Nat),nu (Rp.do_ s (Rp.look s.b j o.at_ E)).2.1])∧ve w B g v s (Rp.look s.b j o.at_ E) w':=by
 have aj:=gQq (xZ h hd aw ci bX b9 bp bO);have a0:∀c,Rp.look s.b j o.at_ E=qx c->c≠0:=fun c Z=>by
  unfold Rp.look at Z;split at Z
  ·cases Z;decide
  ·cases Z
 obtain⟨r,bv⟩:∃r,r=Rp.look s.b j o.at_ E:=⟨_,rfl⟩;rw[<-bv] at aj a0 ⊢;have b5:=gQq a0;clear h hd bX bp bO bv a0;go_enter func61,ntmps61;go_wp2_with fail;refine aj.out.mono ?_;rintro e w1 ⟨X,t,ab,bq,bk⟩;have S:=gQq bq;have HA1:Hid (Aside (fun i=>i=g∨v.ownBlock=I i) w w1):=bk.mono fun i _ hi=>.inl hi;clear bq bk aj;cases r with
 |error c=>
  replace X:e=qz (oq #[U R 0,N O,.iface 166 (nx #[U R (c:Nat)])]):=X
  subst X;have cd:=b5.out c rfl;go_wp2;go_ret2;refine⟨?_,t,v,x,k,ab,S.out,HA1.out,fun i hi=>.inl hi⟩;show _=qz (oq #[U R ((0:Nat):Int),nu c]);unfold nu;rw[AJ cd];rfl
 |ok K=>
  obtain⟨a,M,B',n,v',cn,m,y,rfl,-,-,bn,b2⟩:=X;have cb:K<=s.b.length:=by rw[<-b2];exact(Sc.goes_good bn).2.1
  have a7:=gQq (j9 S.out);have a4:=gQq (zS S.out (K:Nat) bN aw cc);have bT:((s.b.length-K:Nat):Int)=(s.b.length:Int)-(K:Int):=by omega
  have b6:=gQq bT;obtain⟨A,V⟩:∃A,A=s.b.length:=⟨_,rfl⟩;have bj:AZ AW 11 #[N (I ⟨g,0,O⟩)] w1 fun e w'=>e=qz (U R (A:Nat))∧w'=w1:=by rw[V];exact a7.out
  have a8:=gQq bj;rw[<-V] at cb aw;have ak:=gQq V;clear bn b2 bT bj a7 V bN;go_wp2_with fail;refine a8.out.mono ?_;rintro e w' ⟨rfl,b1⟩;rw[b1];clear b1 w' a8;by_cases bi:A=K
  ·have b7:((A:Int)-(K:Int)==0)=true:=(by rw[beq_iff_eq];omega);have bb:∀s':Dv.St,s'.b=s.b->Rp.do_ s' (.ok K)=(0,0,s'):=fun s' a1=>uz (by rw[a1,<-ak.out];exact bi);have a5:=gQq bb;clear bb;go_wp2;go_ret2;refine⟨?_,t,v,x,k,ab,?_,HA1.out,fun i hi=>.inl hi⟩
   ·rw[a5.out s rfl];rfl
   ·rw[a5.out { s with told:=t } rfl];exact S.out
  ·have b7:((A:Int)-(K:Int)==0)=false:=(by rw[AM];omega);have bc:∀s':Dv.St,s'.b=s.b->Rp.do_ s' (.ok K)=if (Dv.cut s' K).1=0 then (s'.b.length-K,0,(Dv.cut s' K).2) else (0,(Dv.cut s' K).1,(Dv.cut s' K).2):=fun s' a1=>yy (by rw[a1,<-ak.out];exact bi);have be:(Dv.cut { s with told:=t } (K:Nat)).1=(Dv.cut s (K:Nat)).1:=uG s t K;have Q:=gQq bc;have ah:=gQq be;clear bc be;go_wp2_with fail;refine a4.out.mono ?_;rintro e cj ⟨rfl,a2,b4,b3,bs,bl,b0⟩;have a6:=gQq bs;have a3:Hid (Aside (fun i=>i=g∨v.ownBlock=I i) w cj):=HA1.out.trans bl (fun _ _ h=>h);have a9:Hid (∀i,a2.ownBlock=I i->v.ownBlock=I i∨w.1.size<=i):=fun i hi=>(b0 i hi).imp id (fun h=>AG HA1.out.size h);obtain⟨D,an⟩:∃D,D=(Dv.cut { s with told:=t } (K:Nat)).1:=⟨_,rfl⟩;rw[<-an];have J:=gQq an;clear bs bl b0 a4 an;by_cases L:D=0
   ·have b8:((D:Int) != 0)=false:=(by rw[bne_eq_false_iff_eq];omega);go_wp2;go_ret2;refine⟨?_,t,a2,b4,b3,ab,?_,a3.out,a9.out⟩
    ·rw[Q.out s rfl,AK (by rw[<-ah.out,<-J.out];exact L)];show _=qz (oq #[U R ((s.b.length-K:Nat):Int),.nilIface]);rw[b6.out,<-ak.out];rfl
    ·rw[Q.out { s with told:=t } rfl,AK (by rw[<-J.out];exact L)];exact a6.out
   ·have b8:((D:Int) != 0)=true:=(by rw[bne_iff_ne];omega);go_wp2;go_ret2;refine⟨?_,t,a2,b4,b3,ab,?_,a3.out,a9.out⟩
    ·rw[Q.out s rfl,AJ (by rw[<-ah.out,<-J.out];exact L),<-ah.out,<-J.out];show _=qz (oq #[U R ((0:Nat):Int),nu D]);unfold nu;rw[AJ L];rfl
    ·rw[Q.out { s with told:=t } rfl,AJ (by rw[<-J.out];exact L)];exact a6.out
theorem kDo(h:ax w B g v s x k)(hd:s.down=wx)(a6:s.b.length<=2097152)(aj:s.safe<=s.b.length)(a4:s.done<4611686018427387904)(a7:s.told<=100000000000000)(an:Hv w)(S:He w)(a3:2<B){j A:Nat}{y:Sc.Pos}(X:Sc.goes s.b j=I y)(ak:Sc.step s.b y=qx A):
  AZ AW 39 #[N (I ⟨g,0,O⟩)] w fun e w'=>e=qz (oq #[U R ((Rp.do_ s (Rp.look s.b j y.at_ A)).1:Nat),U R ((Rp.do_ s (Rp.look s.b j y.at_ A)).2.1:Nat)])∧ve w B g v s (Rp.look s.b j y.at_ A) w':=by
 have E:=gQq (tY h hd a6 aj a4 a7 an a3 X ak);have a0:=gQq S;have bi:=h.base;have a1:Hid (∀i,v.ownBlock=I i->B<=i):=fun i a5=>(h.has.lt i a5).1;obtain⟨r,ah⟩:∃r,r=Rp.look s.b j y.at_ A:=⟨_,rfl⟩;rw[<-ah] at E ⊢;obtain⟨n,ab⟩:∃n,n=(Rp.do_ s r).1:=⟨_,rfl⟩;obtain⟨c,o⟩:∃c,c=(Rp.do_ s r).2.1:=⟨_,rfl⟩;rw[<-ab,<-o] at E ⊢;clear h hd an S X ak ah ab o aj;go_enter func39,ntmps39;go_wp2_with fail;refine E.out.mono ?_;rintro e w1 ⟨rfl,t,v',D,k',a8,Z,L,aw⟩;have J:=gQq (r8 c w1 (a0.out.aside L (fun o=>by
  rcases o with o | o
  ·omega
  ·have:=a1.out _ o;omega)))
 obtain⟨fl,V⟩:∃fl,fl=nu c:=⟨_,rfl⟩;rw[<-V] at J ⊢;have a2:Hid (∃t v' D k',t<=s.told+4000000000∧ax w1 B g v' (Rp.do_ { s with told:=t } r).2.2 D k'∧Aside (fun i=>i=g∨v.ownBlock=I i) w w1∧∀i,v'.ownBlock=I i->v.ownBlock=I i∨w.1.size<=i):=⟨t,v',D,k',a8,Z,L,aw⟩;clear Z L aw V E;go_wp2_with fail;refine J.out.mono ?_;rintro e bj ⟨rfl,Q⟩;have M:=gQq Q;clear Q J;go_wp2;go_ret2;obtain⟨t,v',D,k',a9,bb,bc,be⟩:=a2.out;exact⟨rfl,t,v',D,k',a9,bb.below M.out,bc.trans (af M.out _) (fun _ _ h=>h),be⟩
end
end
end Go.Proofs.YtngmnfdaedlodaaGreatDoor
