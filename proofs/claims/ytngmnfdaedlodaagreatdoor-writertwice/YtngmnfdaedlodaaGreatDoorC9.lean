import Derived.Stop.Asserts
import Derived.Test.YtngmnfdaedlodaaGreatDoorC8
import Derived.Test.YtngmnfdaedlodaaGreatDoorB40
set_option maxRecDepth 100000
set_option maxHeartbeats 4000000
namespace Go.Proofs.YtngmnfdaedlodaaGreatDoor
open Go.Proofs.Tryz
open Option renaming some->I,none->O
open Go.Value renaming int->U,pointer->N,agg->nx,slice->mA,tuple->oq
open Go.IntKind renaming i64->R
open Go.Proofs.Tryz renaming prog->AW
open Go renaming World->wv,Value->AQ,Calls->AZ
open Go.Ending renaming returned->qz
open Go.Obj renaming cells->qj
open Go.RowKit renaming Below->AX
open Bool renaming false->wx
open Except renaming error->qx
variable{K:Nat}{w w':wv}
section
open Go.RowKit Go.Extern.Stop Go.Stop Go.Extern
def He(w:wv):Prop:=w.cell? ⟨1,0,O⟩=I (.iface 244 (nx #[N (I ⟨4,123,O⟩)]))
theorem uR(t:AQ)(w:wv):
  AZ AW 90 #[.nilIface,t] w fun e w'=>e=qz (.bool wx)∧w'=w:=by
 go_enter func90,ntmps90;go_wp2;go_ret;exact⟨rfl,rfl⟩
theorem sP(t:Addr)(w:wv):(ReflectliteValue.unpack (.iface 168 (N (I t)))).run AW w
 =.ok (nx #[N (I ⟨4,168,O⟩),N (I ⟨w.1.size,0,O⟩),U .u64 150]) (w.alloc (qj #[N (I t)] 168)):=by kernel_rfl
theorem yJ(a : Addr)(w : wv): (ReflectliteValue.methodAny (ReflectliteValue.valueError "reflectlite.Value.Type" 0) (fun t _ _ _=>ReflectliteType.toType t) #[nx #[N (I ⟨4, 168, O⟩), N (I a), U .u64 150]]).run AW w
 =.ok (.iface 244 (nx #[N (I ⟨4,168,O⟩)])) w:=by kernel_rfl
theorem lq(h : AQ)(w : wv): (Go.method 442 244 (nx #[h]) "Kind").run AW w=.ok (235, h) w := by kernel_rfl
theorem zj(w:wv):((ReflectliteType.abiMethod fun t=>Functor.map (fun a:Nat=>U IntKind.u8 (a:Int)) (Rtype.kind t)) #[N (I ⟨4,168,O⟩)]).run AW w=.ok (U .u8 22) w:=by kernel_rfl
theorem zi(w:wv):((ReflectliteType.abiMethod fun t=>Functor.map (fun a:Nat=>U IntKind.u8 (a:Int)) (Rtype.kind t)) #[N (I ⟨4,166,O⟩)]).run AW w=.ok (U .u8 25) w:=by kernel_rfl
theorem wZ(z:Sem AQ)(f:TypeId->Addr->Nat->Nat->Sem AQ)(v:AQ):
  ReflectliteValue.method z f #[v]=(do match <-ReflectliteValue.parts v with | none=>z | some (t,a,fl)=>f t a fl (fl % 32)):=rfl
theorem tr(a:Addr)(w:wv):(ReflectliteValue.parts (nx #[N (I ⟨4,168,O⟩),N (I a),U .u64 150])).run AW w=.ok (I (168,a,150)) w:=by kernel_rfl
theorem yi(a p:Addr)(W:wv)(o:W.cell? a=I (N (I p))):
  (ReflectliteValue.method (ReflectliteValue.valueError "reflectlite.Value.IsNil" 0) ReflectliteValue.isNil #[nx #[N (I ⟨4, 168, O⟩), N (I a), U .u64 150]]).run AW W=.ok (.bool wx) W := by
 rw[wZ];simp only[Sem.run_bind,tr,Result.andThen];simp[ReflectliteValue.isNil,loadVar,isAgg,underlying,underlying168,o,Result.andThen]
theorem lu(h : AQ)(w : wv): (Go.method 442 244 (nx #[h]) "Elem").run AW w=.ok (257, nx #[h]) w := by kernel_rfl
theorem fT(h : AQ)(w : wv): (Go.method 442 244 (nx #[h]) "Implements").run AW w=.ok (258, nx #[h]) w := by kernel_rfl
theorem eX(h : AQ)(w : wv): (Go.method 442 244 (nx #[h]) "AssignableTo").run AW w=.ok (255, nx #[h]) w := by kernel_rfl
theorem zC(w:wv):(ReflectliteType.method ReflectliteType.elem #[nx #[N (I ⟨4,168,O⟩)]]).run AW w=.ok (.iface 244 (nx #[N (I ⟨4,166,O⟩)])) w:=by kernel_rfl
theorem ni(w : wv): (ReflectliteType.relation "Implements" ReflectliteType.implements_ #[nx #[N (I ⟨4, 166, O⟩)], .iface 244 (nx #[N (I ⟨4, 123, O⟩)])]).run AW w=.ok (.bool true) w := by kernel_rfl
theorem vA(v:AQ)(w:wv):(ReflectliteType.typeOf #[.iface 166 v]).run AW w=.ok (.iface 244 (nx #[N (I ⟨4,166,O⟩)])) w:=by kernel_rfl
theorem nH(w : wv): (ReflectliteType.relation "AssignableTo" ReflectliteType.assignableTo #[nx #[N (I ⟨4, 166, O⟩)], .iface 244 (nx #[N (I ⟨4, 166, O⟩)])]).run AW w=.ok (.bool true) w := by kernel_rfl
theorem sO(e:Int)(w:wv):(ReflectliteValue.unpack (.iface 166 (nx #[U R e]))).run AW w
 =.ok (nx #[N (I ⟨4,166,O⟩),N (I ⟨w.1.size,0,O⟩),U .u64 153]) (w.alloc (qj #[U R e] 166)):=by kernel_rfl
theorem wC(w:wv):(Rtype.elem? 168).run AW w=.ok (I 166) w:=by kernel_rfl
theorem mkS(p:Addr)(w:wv):(ReflectliteValue.mk 166 p ReflectliteValue.flagAddr).run AW w=.ok (nx #[N (I ⟨4,166,O⟩),N (I p),U .u64 409]) w:=by kernel_rfl
theorem yz(a p:Addr)(W:wv)(o:W.cell? a=I (N (I p))):
  (ReflectliteValue.method (ReflectliteValue.valueError "reflectlite.Value.Elem" 0) ReflectliteValue.elem #[nx #[N (I ⟨4, 168, O⟩), N (I a), U .u64 150]]).run AW W
  =.ok (nx #[N (I ⟨4,166,O⟩),N (I p),U .u64 409]) W:=by
 rw[wZ];simp only[Sem.run_bind,tr,Result.andThen];simp[ReflectliteValue.elem,loadVar,isAgg,underlying,underlying168,o,Result.andThen,wC,mkS]
theorem yU(v x:AQ):ReflectliteValue.set #[v,x]=(do
  let (I (dst,a,fl),I (src,b,_)):=(<-ReflectliteValue.parts v,<-ReflectliteValue.parts x)
   |unsupported (.noEntry "extern/(internal/reflectlite.Value).Set.zeroValue")
  if fl / ReflectliteValue.flagAddr % 2==0 then unsupported (.noEntry "extern/(internal/reflectlite.Value).Set.unaddressable")
  let val <-loadVar src b
  if <-Rtype.directlyAssignable dst src then storeVar dst a val
  else if <-Rtype.implements dst src then
   if (<-Rtype.kind src)==20 then
    match val with
    |.nilIface=>unsupported (.noEntry "extern/reflectlite: a nil value of one interface type handed on as a value of another")
    |_=>storeVar dst a val
   else storeVar dst a (.iface src val)
  else panicString ("reflectlite.Set: value of type "++(<-Rtype.spelt src)++ " is not assignable to type "++(<-Rtype.spelt dst))
  pure (oq #[])):=rfl
theorem vN(a:Addr)(w:wv):(ReflectliteValue.parts (nx #[N (I ⟨4,166,O⟩),N (I a),U .u64 409])).run AW w=.ok (I (166,a,409)) w:=by kernel_rfl
theorem xM(a:Addr)(w:wv):(ReflectliteValue.parts (nx #[N (I ⟨4,166,O⟩),N (I a),U .u64 153])).run AW w=.ok (I (166,a,153)) w:=by kernel_rfl
theorem wF(w:wv):(Rtype.directlyAssignable 166 166).run AW w=.ok true w:=by kernel_rfl
theorem setS(o b:Nat)(e:Int)(old:AQ)(W:wv)(hb:W.cell? ⟨b,0,O⟩=I (U R e))(D:W.cell? ⟨o,0,O⟩=I old)(y:W.frozen? ⟨o,0,O⟩=wx):
  (ReflectliteValue.set #[nx #[N (I ⟨4,166,O⟩),N (I ⟨o,0,O⟩),U .u64 409],nx #[N (I ⟨4,166,O⟩),N (I ⟨b,0,O⟩),U .u64 153]]).run AW W
  =.ok (oq #[]) (W.setCell ⟨o,0,O⟩ (U R e)):=by
 rw[yU];simp only[Sem.run_bind,vN,xM,Result.andThen];have A:(loadVar 166 ⟨b,0,O⟩).run AW W=.ok (nx #[U R e]) W:=by
  simp[loadVar,isAgg,underlying,underlying166,loadCells,loadCellsFrom,Addr.add,hb,Result.andThen]
 simp[ReflectliteValue.flagAddr,A,Result.andThen,wF,storeVar,Value.cells,storeCells,Addr.add];rw[run_store AW W ⟨o,0,O⟩ _ _ (by rfl)];simp[D,y]
theorem uS(x:Int)(t:Nat)(old:AQ)(w:wv)(o:He w)(A:w.cell? ⟨t,0,O⟩=I old)(J:w.frozen? ⟨t,0,O⟩=wx):
  AZ AW 90 #[.iface 166 (nx #[U R x]),.iface 168 (N (I ⟨t,0,O⟩))] w fun E w'=>E=qz (.bool true)∧w'=((((w.alloc (qj #[N (I ⟨t,0,O⟩)] 168)).alloc (qj #[N (I ⟨4,168,O⟩),N (I ⟨w.1.size,0,O⟩),U .u64 150] 202)).alloc (qj #[N (I ⟨4,168,O⟩),N (I ⟨w.1.size,0,O⟩),U .u64 150] 202)).alloc (qj #[U R x] 166)).setCell ⟨t,0,O⟩ (U R x):=by
 unfold He at o;have a0:=@run_callFunc_extern AW 121 _ (fun args=>ReflectliteValue.unpack (args.getD 0 (oq #[]))) func121 (by kernel_rfl) (by kernel_rfl) (by kernel_rfl) (by kernel_rfl);have a1 := @run_callFunc_extern AW 122 _ (ReflectliteValue.methodAny (ReflectliteValue.valueError "reflectlite.Value.Type" 0) (fun t _ _ _=>ReflectliteType.toType t)) func122 (by kernel_rfl) (by kernel_rfl) (by kernel_rfl) (by kernel_rfl);have a2 := @run_callFunc_extern AW 123 _ (ReflectliteValue.method (ReflectliteValue.valueError "reflectlite.Value.IsNil" 0) ReflectliteValue.isNil) func123 (by kernel_rfl) (by kernel_rfl) (by kernel_rfl) (by kernel_rfl);have ah:=@run_callFunc_extern AW 235 _ (ReflectliteType.abiMethod fun t=>do pure (U .u8 (<-Rtype.kind t))) func235 (by kernel_rfl) (by kernel_rfl) (by kernel_rfl) (by kernel_rfl);have ak:=@run_callFunc_extern AW 257 _ (ReflectliteType.method ReflectliteType.elem) func257 (by kernel_rfl) (by kernel_rfl) (by kernel_rfl) (by kernel_rfl);have aw := @run_callFunc_extern AW 258 _ (ReflectliteType.relation "Implements" ReflectliteType.implements_) func258 (by kernel_rfl) (by kernel_rfl) (by kernel_rfl) (by kernel_rfl);have X:=@run_callFunc_extern AW 155 _ ReflectliteType.typeOf func155 (by kernel_rfl) (by kernel_rfl) (by kernel_rfl) (by kernel_rfl);have aj := @run_callFunc_extern AW 255 _ (ReflectliteType.relation "AssignableTo" ReflectliteType.assignableTo) func255 (by kernel_rfl) (by kernel_rfl) (by kernel_rfl) (by kernel_rfl)
 have Z := @run_callFunc_extern AW 156 _ (ReflectliteValue.method (ReflectliteValue.valueError "reflectlite.Value.Elem" 0) ReflectliteValue.elem) func156 (by kernel_rfl) (by kernel_rfl) (by kernel_rfl) (by kernel_rfl);have ab:=@run_callFunc_extern AW 157 _ ReflectliteValue.set func157 (by kernel_rfl) (by kernel_rfl) (by kernel_rfl) (by kernel_rfl);have be:=vA;have a7:=eX;have L:=nH;have bi:=sO;have S:=sP;have V:=yJ;have bb:=lq;have a8:=lu;have a9:=fT;have a6:=zj;have a5:=zi;have M:=zC;have a4:=ni;have n8:=yi ⟨w.1.size,0,O⟩ ⟨t,0,O⟩ ((w.alloc (qj #[N (I ⟨t,0,O⟩)] 168)).alloc (qj #[N (I ⟨4,168,O⟩),N (I ⟨w.1.size,0,O⟩),U .u64 150] 202)) (by simp);have y:1<w.1.size:=by
  rcases Nat.lt_or_ge 1 w.1.size with h | h
  ·exact h
  ·simp[World.cell?,Array.getElem?_eq_none h] at o
 have a3:((w.alloc (qj #[N (I ⟨t,0,O⟩)] 168)).alloc (qj #[N (I ⟨4,168,O⟩),N (I ⟨w.1.size,0,O⟩),U .u64 150] 202)).cell? ⟨1,0,O⟩=I (.iface 244 (nx #[N (I ⟨4,123,O⟩)])):=by
  rw[World.cell?_alloc_lt _ _ ⟨1,0,O⟩ (AF y (by simp)),World.cell?_alloc_lt _ _ ⟨1,0,O⟩ y];exact o
 have D:t<w.1.size:=by
  rcases Nat.lt_or_ge t w.1.size with h | h
  ·exact h
  ·simp[World.cell?,Array.getElem?_eq_none h] at A
 have Q:=yz ⟨w.1.size,0,O⟩ ⟨t,0,O⟩ (((w.alloc (qj #[N (I ⟨t,0,O⟩)] 168)).alloc (qj #[N (I ⟨4,168,O⟩),N (I ⟨w.1.size,0,O⟩),U .u64 150] 202)).alloc (qj #[N (I ⟨4,168,O⟩),N (I ⟨w.1.size,0,O⟩),U .u64 150] 202)) (by rw[World.cell?_alloc_lt _ _ ⟨w.1.size,0,O⟩ (by simp;omega)];simp)
 have bc:=setS t (w.1.size+1+1+1) x old ((((w.alloc (qj #[N (I ⟨t,0,O⟩)] 168)).alloc (qj #[N (I ⟨4,168,O⟩),N (I ⟨w.1.size,0,O⟩),U .u64 150] 202)).alloc (qj #[N (I ⟨4,168,O⟩),N (I ⟨w.1.size,0,O⟩),U .u64 150] 202)).alloc (qj #[U R x] 166))
  (by rw[World.cell?_alloc_at _ _ _ _ (by simp)];rfl)
  (by rw[World.cell?_alloc_lt _ _ ⟨t,0,O⟩ (by simp;omega),World.cell?_alloc_lt _ _ ⟨t,0,O⟩ (by simp;omega),World.cell?_alloc_lt _ _ ⟨t,0,O⟩ (by simp;omega),World.cell?_alloc_lt _ _ ⟨t,0,O⟩ D];exact A)
  (by rw[World.frozen?_alloc_old _ _ ⟨t,0,O⟩ (by simp;omega),World.frozen?_alloc_old _ _ ⟨t,0,O⟩ (by simp;omega),World.frozen?_alloc_old _ _ ⟨t,0,O⟩ (by simp;omega),World.frozen?_alloc_old _ _ ⟨t,0,O⟩ (Nat.ne_of_lt D)];exact J)
 go_enter func90,ntmps90;go_wp2;refine wp_loop_rounds 1 ?_;rw[rounds_succ];go_wp2;go_ret;exact⟨rfl,rfl⟩
theorem He.on(h:He w)(hb:AX w.1.size w w'):He w':=by
 unfold He at *
 have y:1<w.1.size:=by
  rcases Nat.lt_or_ge 1 w.1.size with o | o
  ·exact o
  ·simp[World.cell?,Array.getElem?_eq_none o] at h
 unfold World.cell? at *
 rw[hb.block _ y];exact h
theorem r7(w:wv):AZ AW 62 #[.nilIface] w fun e w'=>e=qz (U R 0)∧AX w.1.size w w':=by
 go_enter func62,ntmps62;go_wp2_with (first | (go_at_call 90;refine(uR _ _).mono ?_;rintro e w' ⟨rfl,rfl⟩));go_ret;exact⟨rfl,gQy⟩
theorem kS(x:Int)(w:wv)(y:He w):AZ AW 62 #[.iface 166 (nx #[U R x])] w fun e w'=>e=qz (U R x)∧AX w.1.size w w':=by
 have A:He (w.alloc (qj #[U R 0] 166)):=y.on gQy;have D:(w.alloc (qj #[U R 0] 166)).cell? ⟨w.1.size,0,O⟩=I (U R 0):=by simp
 have o:(w.alloc (qj #[U R 0] 166)).frozen? ⟨w.1.size,0,O⟩=false:=by simp
 have H:=uS x w.1.size _ _ A D o;clear A D o y;go_enter func62,ntmps62;go_wp2_with (first | (go_at_call 90;refine H.mono ?_;rintro e w' ⟨rfl,rfl⟩));go_ret;exact⟨rfl,(((gQy.alloc (by simp) _).alloc (by simp;omega) _).alloc (by simp;omega) _).alloc (by simp;omega) _⟩
end
section
open Go.RowKit
theorem oZ(a:Int)(p:OA)(c:Nat)(l:L8)(a0:l.length<=140737488351232)(a1:l.length<=c)(w:wv)(ah:Hv w)(h:At w p l):
  AZ AW 154 #[nx #[U R a,mA p l.length c]] w fun e w'=>e=qz (.bool (Rp.isF l))∧AX w.1.size w w':=by
 obtain⟨W,S⟩:∃W,W=w.alloc (qj #[U R a,mA p l.length c] 240):=⟨_,rfl⟩;have M:AX w.1.size w W:=by rw[S];exact gQy
 have J:=gQq (qs p c l a0 a1 W (ah.next M) (h.on M));have E:=gQq M;have ak:=gQq S.symm
 have y:Hid (Rp.isF l=match Fr.dec l with
  |.ok _=>true
  |qx _=>wx):=rfl
 have L:Hid (∀o,Fr.dec l=qx o->o≠0):=fun o aw=>jF aw;obtain⟨r,Z⟩:∃r,r=Fr.dec l:=⟨_,rfl⟩;rw[<-Z] at J y L;obtain⟨z,aj⟩:∃z,z=Rp.isF l:=⟨_,rfl⟩;rw[<-aj] at y ⊢;clear ah h Z aj M S;go_enter func154,ntmps154;go_wp2_with fail;rw[ak.out];refine J.out.mono ?_;intro e w1 V;cases r with
 |error o=>
  obtain⟨rfl,D⟩:e=qz (oq #[nx #[U R 0,U R 0,mA O 0 0,U R 0,U R 0,U R 0,mA O 0 0,U R 0,U R 0,U R 0,mA O 0 0],U R (o:Nat)])∧AX W.1.size W w1:=V;have a2:=L.out o rfl;have a7:((o:Int)==0)=false:=by rw[AM];omega
  have Q:Hid (z=wx):=y.out;have A:=gQq (E.out.trans (D.mono E.out.size));clear a2 D J L y;go_wp2;go_ret;exact⟨by rw[Q.out];rfl,A.out.alloc A.out.size _⟩
 |ok f=>
  obtain⟨u,rfl,X,D⟩:∃u,e=qz (oq #[nx u,U R 0])∧eM w1 W.1.size u f∧AX W.1.size W w1:=V;obtain⟨sp,a8,a4,a3,a6,a5,ab,-⟩:=X.out;unfold aG at ab;subst ab;have Q:Hid (z=true):=y.out;have A:=gQq (E.out.trans (D.mono E.out.size));clear X D J L y;go_wp2;go_ret;exact⟨by rw[Q.out];rfl,A.out.alloc A.out.size _⟩
def kV(w:wv)(p:OA)(rs:List Run):Prop:=∀j (hj:j<rs.length),∃g,p=I ⟨g,0,O⟩∧w.cell? ⟨g,j*2,O⟩=I (U R rs[j].1)∧∃q c,w.cell? ⟨g,j*2+1,O⟩=I (mA q rs[j].2.length c)∧At w q rs[j].2∧rs[j].2.length<=c
theorem bE.readF{B:Nat}{q:OA}{n c:Nat}{J:List Nat}{y:List Run}(h:bE w B (mA q n c) J y):kV w q y:=by
 obtain⟨us,V,a7,X⟩:=h.out;intro j aw;rcases V.2 with ⟨_,a2⟩ | ⟨g,cap,a1,ak,a3,Z,a4,a5,a6,ab⟩
 ·omega
 ·injection ak with A _ _;subst A;obtain⟨S,L,A,M,Q,o⟩:=X j aw;have D:∀m v,m<y.length*2->us[m]?=I v->w.cell? ⟨g,m,O⟩=I v:=fun m v o E=>by
   rw[<-ab,List.getElem?_take_of_lt o] at E;simp only[World.cell?,Z];simpa using E
  obtain⟨p2,c2,a0,ah,aj⟩:=o.has.at;injection a0 with i1 _ i3;subst i1;subst i3;exact⟨g,rfl,D _ _ (by omega) M,I ⟨S,0,O⟩,L,D _ _ (by omega) Q,ah,aj⟩
theorem kV.on{p:OA}{o:List Run}(h:kV w p o)(hb:AX w.1.size w w'):kV w' p o:=fun j L=>by
 obtain⟨g,y,A,q,c,D,E,J⟩:=h j L;exact⟨g,y,ae hb A,q,c,ae hb D,E.on hb,J⟩
theorem nh(p:OA)(c:Nat)(o:List Run)(bb:o.length<=100000000)(ak:∀r∈o,r.2.length<=2200)(w:wv)(aw:Hv w)(h:kV w p o):
  AZ AW 176 #[mA p o.length c,.func (.func 154) #[] #[]] w fun e w'=>∃k:Int,e=qz (U R k)∧(decide (0<=k)=o.any fun r=>Rp.isF r.2)∧AX w.1.size w w':=by
 have a1:=gQq h;have a3:=gQq aw;have a2:=gQq ak;clear h aw ak;go_enter func176,ntmps176;go_wp2_with fail;go_loopw [8] (fun S wr=>∃j:Nat,j<=o.length∧S=U R j∧Hid (AX w.1.size w wr∧∀m (A:m<o.length),m<j->Rp.isF o[m].2=wx)) (fun S _=>o.length-(intOf S).toNat);case atStart=>exact⟨0,Nat.zero_le _,rfl,gQz,fun m _ h=>by omega⟩
 case round=>
  obtain⟨j,a9,rfl,y⟩:=hrel;by_cases L:j<o.length
  ·have a4:(j:Int)<(o.length:Int):=(by omega);obtain⟨g,a7,a5,q,d,a6,Z,ab⟩:=(a1.out.on y.out.1) j L;subst a7;have E:=oZ o[j].1 q d o[j].2 (by have:=a2.out o[j] (AL L);omega) ab wr (a3.out.next y.out.1) Z;obtain⟨z,Q⟩:∃z,z=Rp.isF o[j].2:=⟨_,rfl⟩;obtain⟨n,M⟩:∃n,n=o[j].2.length:=⟨_,rfl⟩;obtain⟨a,J⟩:∃a,a=o[j].1:=⟨_,rfl⟩;rw[<-Q,<-M,<-J] at E;rw[<-M] at a6;rw[<-J] at a5;have X:=gQq E;have D:=gQq Q;clear E Q M J Z ab;go_wp2_with fail;refine X.out.mono ?_;rintro e w1 ⟨rfl,aj⟩;have V:=gQq (y.out.1.trans (aj.mono y.out.1.size));clear aj X;cases z with
   |true=>
    go_wp2;go_ret;refine⟨(j:Int),rfl,?_,V.out⟩;rw[AE (by omega)];exact(List.any_eq_true.2 ⟨o[j],AL L,D.out.symm⟩).symm
   |false=>
    have a0:Hid (AX w.1.size w w1∧∀m (A:m<o.length),m<j+1->Rp.isF o[m].2=wx):=⟨V.out,fun m A h=>by
     rcases Nat.lt_or_ge m j with ah | ah
     ·exact y.out.2 m A ah
     ·obtain rfl:m=j:=by omega
      exact D.out.symm⟩
    clear y D;go_wp2;go_roundw;case rel=>exact⟨j+1,by omega,by go_num,a0⟩
    case measure=>simp[intOf];omega
  ·have a4:¬(j:Int)<(o.length:Int):=(by omega);go_wp2;go_ret;refine⟨-1,rfl,?_,y.out.1⟩;rw[AD (by omega)];symm;rw[List.any_eq_false];intro r a8;obtain⟨m,A,rfl⟩:=List.mem_iff_getElem.1 a8;rw[y.out.2 m A (by omega)];simp
theorem jG(p:OA)(c:Nat)(o:List Run)(M:o.length<=100000000)(D:∀r∈o,r.2.length<=2200)(w:wv)(E:Hv w)(h:kV w p o):
  AZ AW 152 #[mA p o.length c,.func (.func 154) #[] #[]] w fun e w'=>e=qz (.bool (o.any fun r=>Rp.isF r.2))∧AX w.1.size w w':=by
 have y:=gQq (nh p c o M D w E h);clear D E h;go_enter func152,ntmps152;go_wp2_with fail;refine y.out.mono ?_;rintro e w1 ⟨k,rfl,A,hb⟩;have L:=gQq A;have J:=gQq hb;clear A hb y;go_wp2;go_ret;exact⟨by rw[<-L.out];rfl,J.out⟩
end
section
open Go.RowKit Go.Maps
def wR(w:wv)(B g:Nat)(v:AQ)(s:Dv.St)(x k:Nat)(G:Nat->Prop)(J:Nat)(wk:Wk)(e:Ending)(w':wv):Prop :=
 ∃v' g' t,e=qz (oq #[N (I ⟨w.1.size+1,0,O⟩),U R (Rp.kept s.b J:Nat)])∧au w' w.1.size (w.1.size+1) w.1.size J v' g' wk G∧t<=s.told+1000000000∧av w' B g v { s with told:=t } x k∧Aside (fun i=>i=g) w w'
section
variable {w:wv} {B g x k:Nat} {v:AQ} {s:Dv.St} {G:Nat->Prop}
theorem vV(h:av w B g v s x k)(hd:s.down=wx)(fy:s.b.length<=2097152)(gn:s.told<=1000000000000000)(er:Hv w)(b2:2<B)(df:B<=w.1.size)(ds:∀i,i=g∨v.ownBlock=I i->G i)(b4:∀i,G i->i<w.1.size){J:Nat}{X:Sc.Pos}(cc:Sc.goes s.b J=I X):
  AZ AW 119 #[N (I ⟨g,0,O⟩),U R (X.at_:Nat)] w (wR w B g v s x k G J X.wk):=by
 have cy:=gQq (tU w G b4);have cs:=gQq h;have ct:=gQq er;have cr:=gQq ds;have f4:=gQq b4;have fv:=h.lt;have gh:=h.base;have eC:=gQq hd;have bb:=gQq cc;have fc:=(Sc.goes_good cc).2.1;obtain⟨E,b3⟩:∃E,E=X.at_:=⟨_,rfl⟩;rw[<-b3] at fc ⊢;have cq:=gQq b3;have gb:(E:Int)<=2097152:=by omega
 clear h er ds b4 hd cc b3;go_enter func119,ntmps119;go_wp2_with fail;refine cy.out.mono ?_;rintro e w1 ⟨rfl,Q,hb1,f0⟩;have eL:Hid (WhI w w1 B g x k v s G 0 Sc.begin_):=⟨cs.out.below hb1,⟨_,_,Q⟩,af hb1 _,rfl⟩;clear Q hb1 f0 cy cs;go_wp2_with fail;go_loopw [7,8] (fun ck f3 wr=>∃j Y,j<=J∧ck=U R (Sc.Pos.at_ Y:Nat)∧f3=U R (Rp.kept s.b j:Nat)∧Hid (WhI w wr B g x k v s G j Y)) (fun ck _ _=>s.b.length-(intOf ck).toNat);case atStart=>exact⟨0,Sc.begin_,Nat.zero_le _,rfl,rfl,eL⟩
 case round=>
  obtain⟨j,Y,gl,rfl,rfl,y⟩:=hrel;obtain⟨fs,fq,e9,gm⟩:=Sc.goes_good y.out.goes;obtain⟨v',c9,a6⟩:=y.out.walk;have fx:=Rp.kept_le y.out.goes;obtain⟨K,a2⟩:∃K,K=Rp.kept s.b j:=⟨_,rfl⟩;obtain⟨D,aj⟩:∃D,D=Y.at_:=⟨_,rfl⟩;rw[<-a2,<-aj] at fx;rw[<-a2,<-aj];rw[<-aj] at fq e9;have gd:(K:Int)<=2097152:=by omega
  have f8:(D:Int)<=2097152:=by omega
  have cv:=gQq a2;have V:=gQq aj;clear a2 aj fs;by_cases ci:j<J
  ·obtain⟨Z,b5⟩:=Rp.goes_pre (j:=j+1) bb.out (by omega);have el:=Rp.goes_le y.out.goes bb.out (Nat.le_of_lt ci);rw[<-V.out,<-cq.out] at el;have e7:(D:Int)<(E:Int):=(by omega);obtain⟨f5,a4,ep⟩:=Sc.goes_pred b5;rw[y.out.goes] at a4;injection a4 with a4;subst a4;obtain⟨f,a0,em,ez,en⟩:=Sc.step_ok ep;obtain⟨e3,e4,e5,ew,c8,fi,e6⟩:=Sc.at_ok a0;have eg:=Rp.kept_succ y.out.goes a0;have dj:=kAt y.out.dev eC.out fy (by show s.told+Y.read+s.b.length<=_;omega) (ct.out.on (y.out.aside.below df (fun i o b8=>by omega)) b2) b2 (Y.at_:Nat);have dr:AZ AW 13 #[N (I ⟨g,0,O⟩),U R (D:Nat)] wr fun e w'=>AtA (.ok (f,Z.at_)) wr e w'∧av w' B g v { s with told:=s.told+Z.read } x k∧Aside (fun k=>k=g) wr w':=by
    rw[V.out,<-a0,en,<-Nat.add_assoc];exact dj
   have a9:=gQq dr;have bi:=gQq a6;obtain⟨C,a1⟩:∃C,C=Z.at_:=⟨_,rfl⟩;rw[<-a1] at a9 fi;have f7:D<C:=(by rw[a1,c8,<-V.out];simp;omega);have a8:=gQq a1;have bc:Hid (Sc.may Y.wk f (D:Nat)=true):=(by show _=_;rw[V.out];exact em);have c6:Hid (Sc.next Y.wk f (D:Nat)=Z.wk):=by
    show _=_;rw[ez];unfold Sc.next;rw[bc.out,AK rfl,V.out]
   have e2:=gQq b5;have cx:=gQq eg;have e1:=gQq ew;clear dj dr a6 em ez en a0 e3 e4 e5 c8 e6 a1 ep b5 eg ew el;go_wp2_with fail;refine a9.out.mono ?_;rintro e A ⟨fo,eb,has⟩;have aw:au A w.1.size (w.1.size+1) w.1.size j v' c9 Y.wk G:=bi.out.aside (has.mono fun i _ o=>cr.out i (.inl o)) (fun i o=>.inl o) (fun i o=>AF (bi.out.low i o) has.size);have ak:Aside (fun i=>i=g) w A:=y.out.aside.trans has (fun _ _ h=>h);obtain⟨u,rfl,cb⟩:∃u,e=qz (oq #[nx u,U R (C:Nat),U R 0])∧eM A wr.1.size u f:=fo;have b9:=cb.lies;obtain⟨sp,cj,bX,bT,b1,b0,eq,-⟩:=cb.out;unfold aG at eq;subst eq;obtain⟨L,b7⟩:∃x,x=f.kind:=⟨_,rfl⟩;obtain⟨bj,hb1⟩:∃x,x=f.number:=⟨_,rfl⟩;obtain⟨bl,d7⟩:∃x,x=f.cols.length:=⟨_,rfl⟩;obtain⟨bn,d0⟩:∃x,x=f.seq:=⟨_,rfl⟩;obtain⟨bp,d1⟩:∃x,x=f.first:=⟨_,rfl⟩;obtain⟨bq,d2⟩:∃x,x=f.rows:=⟨_,rfl⟩;obtain⟨bs,d3⟩:∃x,x=f.block.length:=⟨_,rfl⟩;obtain⟨bv,d4⟩:∃x,x=f.index.at_:=⟨_,rfl⟩;obtain⟨bN,d5⟩:∃x,x=f.index.frames:=⟨_,rfl⟩;obtain⟨bO,d6⟩:∃x,x=f.index.rows:=⟨_,rfl⟩;obtain⟨bk,dv⟩:∃x,x=f.index.entries.length:=⟨_,rfl⟩;rw[<-b7,<-hb1,<-d7,<-d0,<-d1,<-d2,<-d3,<-d4,<-d5,<-d6,<-dv] at b9 ⊢;obtain⟨S,a5⟩:∃S,S=A.alloc (qj #[U R L,U R bj,mA sp bl cj,U R bn,U R bp,U R bq,mA bX bs bT,U R bv,U R bN,U R bO,mA b1 bk b0] 52):=⟨_,rfl⟩;have M:AX A.1.size A S:=by rw[a5];exact gQy
   have d8:S.1[A.1.size]?=I (qj #[U R L,U R bj,mA sp bl cj,U R bn,U R bp,U R bq,mA bX bs bT,U R bv,U R bN,U R bO,mA b1 bk b0] 52):=(by rw[a5];exact am A _);have c7:Hid (A.alloc (qj #[U R L,U R bj,mA sp bl cj,U R bn,U R bp,U R bq,mA bX bs bT,U R bv,U R bN,U R bO,mA b1 bk b0] 52)=S):=a5.symm;have cd:=aw.on M;have ev:Hv S:=ct.out.on ((ak.below df (fun i o b8=>by omega)).trans (M.mono (by have:=ak.size;omega))) b2;have be:=gQq (tT cd f e1.out _ (b9.on M) (D:Nat) ev (by omega) (by have:=ak.size;have:=M.size;omega));rw[bc.out,c6.out,AK rfl] at be;have cw:=gQq cd;have cp:=gQq (eb.below M);have cn:Hid (Aside (fun i=>i=g) w S):=ak.trans (af M (fun i=>i=g)) (fun _ _ h=>h);have a7:=gQq d8;have c5:Hid (∀i,bz (w.1.size+1) w.1.size v' i->i<A.1.size):=fun i o=>by
    rcases o with o | o | o
    ·rw[o];exact aw.lt
    ·rw[o];exact aw.map.lt
    ·exact(aw.ents.lt i o).2
   have co:=gQq b7;have f9:(C:Int)<=2097152:=(by omega);clear cb b9 aw eb ak has cd ev M a5 d8 bc c6 a9 bi b7 hb1 d7 d0 d1 d2 d3 d4 d5 d6 dv;go_wp2_with fail;rw[c7.out];refine be.out.mono ?_;rintro e w4 ⟨rfl,gq,f6,ec,b6,f2⟩;obtain⟨ea,du⟩:=WhI.after cp.out cw.out cn.out b6 cr.out fv;have d9:=(b6.block _ (ao a7.out) (fun b8=>absurd (c5.out _ b8) (Nat.lt_irrefl _))).trans a7.out;have c0:w4.cell? ⟨A.1.size,0,O⟩=I (U R L):=aa d9 0;have cu:Hid (WhI w w4 B g x k v s G (j+1) Z):=⟨ea,⟨_,_,ec⟩,du,e2.out⟩;clear ec b6 f2 ea du be cw cp cn c7 a7 c5 d9;by_cases Q:L=1
   ·have e8:(L != 1)=false:=(by rw[Q];rfl);go_wp2;go_roundw;case rel=>exact⟨j+1,Z,ci,by rw[<-a8.out],by rw[cx.out,AK (by rw[<-co.out];exact Q),cv.out],cu⟩
    case measure=>simp[intOf];omega
   ·have e8:(L != 1)=true:=(by rw[bne_iff_ne];exact Q);go_wp2;go_roundw;case rel=>exact⟨j+1,Z,ci,by rw[<-a8.out],by rw[cx.out,AJ (by rw[<-co.out];exact Q),a8.out],cu⟩
    case measure=>simp[intOf];omega
  ·obtain rfl:j=J:=by omega
   have a3:=y.out.goes;rw[bb.out] at a3;injection a3 with a3;subst a3;have e7:¬(D:Int)<(E:Int):=(by have:=V.out;have:=cq.out;omega);have e0:=gQq a6;clear a6;go_wp2;go_ret2;exact⟨v',c9,s.told+X.read,by rw[<-cv.out];rfl,e0.out,by omega,y.out.dev,y.out.aside⟩
end
end
section
open Go.RowKit Go.Maps
section
variable {w:wv} {B g x k:Nat} {v:AQ} {s:Dv.St}
theorem qP(s:Dv.St)(p:Nat)(o:p<=s.b.length):Dv.read s (p:Nat) ((s.b.length:Int)-(p:Int))=(s.b.drop p,0,{ s with told:=s.told+(s.b.length-p) }):=by
 unfold Dv.read;rw[AJ (by omega)];have e:(s.b.drop ((p:Nat):Int).toNat).take ((s.b.length:Int)-(p:Int)).toNat=s.b.drop p:=by
  rw[Int.toNat_natCast,List.take_of_length_le (by rw[Aj];omega)]
 simp only[e,Aj]
theorem oS(h:av w B g v s x k)(be:s.b.length<=2097152)(bO:s.told<=1000000000000000)(ak:Hv w)(a9:2<B)(p:Nat)(bj:p<=s.b.length):
  AZ AW 118 #[N (I ⟨g,0,O⟩),U R (p:Nat)] w fun e w'=>e=qz (.bool (Rp.bad s.b p))∧av w' B g v { s with told:=s.told+(s.b.length-p) } x k∧Aside (fun i=>i=g) w w':=by
 have M:=gQq (m9 h);have o:=xp h (p:Nat) ((s.b.length:Int)-(p:Int)) (by omega) (by omega) (by omega) be (by omega);rw[qP s p bj] at o;have bk:(s.b.drop p).length<=s.b.length:=by rw[Aj];omega
 obtain⟨l,J⟩:∃l,l=s.b.drop p:=⟨_,rfl⟩;have V:Hid (Rp.bad s.b p=(Sp.of l).out.any fun r=>Rp.isF r.2):=by show _=_;rw[J];rfl
 rw[<-J] at o bk;have Q:=gQq o;obtain⟨z,a1⟩:∃z,z=Rp.bad s.b p:=⟨_,rfl⟩;rw[<-a1] at V ⊢;have a6:=gQq ak;have bN:=h.lt;have bq:=h.base;clear h ak o J a1;go_enter func118,ntmps118;go_wp2_with fail;refine M.out.mono ?_;rintro e w' ⟨rfl,a0⟩;rw[a0];clear a0 w' M;go_wp2_with fail;refine Q.out.mono ?_;rintro e w1 ⟨q,cap,rfl,ah,ab,D⟩;have aw:Hv w1:=a6.out.on (D.below (B:=B) (by omega) (fun i bv bs=>by omega)) a9;obtain⟨bT,c2,bc,X,bb⟩:=ah.at;injection bc with e1 _ e3;subst e1;subst e3;have S:=gQq (yT w1 q cap l X (by omega));have a4:=gQq ab;have a2:=gQq D;have a7:=gQq aw;clear ah ab D aw X bb Q;go_wp2_with fail;refine S.out.mono ?_;rintro e bl ⟨qr,a8,bp,rfl,aj,E⟩;have bi:=Sp.out_len l;have y:=gQq (jG qr a8 (Sp.of l).out (by omega) (Rp.of_small l) bl (a7.out.next E) aj.readF);have L:=gQq E;rw[<-V.out] at y;clear aj E S bi;go_wp2_with fail;refine y.out.mono ?_;rintro e bn ⟨rfl,Z⟩;have A:=L.out.trans (Z.mono L.out.size);have a5:=gQq (a4.out.below A);have a3:Hid (Aside (fun i=>i=g) w bn):=a2.out.trans (af A (fun i=>i=g)) (fun _ _ h=>h);clear Z A y;go_wp2;go_ret;exact⟨rfl,a5.out,a3.out⟩
theorem He.aside{F:Nat->Prop}(h:He w)(A:Aside F w w')(y:¬F 1):He w':=by
 unfold He at *
 have D:1<w.1.size:=by
  rcases Nat.lt_or_ge 1 w.1.size with o | o
  ·exact o
  ·simp[World.cell?,Array.getElem?_eq_none o] at h
 unfold World.cell? at *
 rw[A.block _ D y];exact h
def zK(b:L8)(G:Nat->Prop)(fl:Nat->AQ)(nl:AQ)(w:wv)(r:Except Nat Nat)(e:Ending)(w':wv):Prop:=match r with
 |qx c=>e=qz (oq #[U R 0,N O,fl c])
 |.ok K=>∃a M B' n v' g' m y,e=qz (oq #[U R (K:Nat),N (I ⟨a,0,O⟩),nl])∧au w' B' a M n v' g' (Sc.Pos.wk y) G∧w.1.size<=B'∧Sc.goes b m=I y∧y.at_=K
def ii(c:Nat):Value:=.iface 166 (nx #[U R (c:Nat)])
theorem yb(h:av w B g v s x k)(hd:s.down=wx)(bT:s.b.length<=2097152)(el:s.told<=100000000000000)(b0:Hv w)(hB:2<B){j A:Nat}{o:Sc.Pos}(ah:Sc.goes s.b j=I o)(bX:Sc.step s.b o=qx A):
  AZ AW 88 #[N (I ⟨g,0,O⟩)] w fun e w'=>zK s.b (fun i=>i=g∨v.ownBlock=I i) ii .nilIface w (Rp.look s.b j o.at_ A) e w'∧∃t,t<=s.told+4000000000∧av w' B g v { s with told:=t } x k∧Aside (fun i=>i=g) w w':=by
 have dj:=h.lt;have eg:=h.base;have bp:∀i,(i=g∨v.ownBlock=I i)->i<w.1.size:=fun i hi=>by
  rcases hi with hi | hi
  ·rw[hi];exact dj
  ·exact(h.has.lt i hi).2
 have b7:=oR (G:=fun i=>i=g∨v.ownBlock=I i) h hd bT (by omega) b0 hB (by omega) (fun i hi=>hi) bp;have b8:AZ AW 10 #[N (I ⟨g,0,O⟩)] w fun e w'=>e=qz (oq #[N (I ⟨w.1.size+1,0,O⟩),U R (o.at_:Nat),U R (A:Nat)])∧av w' B g v { s with told:=s.told+o.read+Sc.reads s.b o.at_ } x k∧Aside (fun i=>i=g) w w':=by
  refine b7.mono ?_;rintro e w' ⟨er,d5,d6,v',a5,bi,bj,bk,-,bl,c6⟩;obtain⟨-,rfl,rfl⟩:=Sc.goes_uniq ah bX bi bj;exact⟨bk,bl,c6⟩
 have a2:=gQq b8;obtain⟨c8,cb,c7,du⟩:=Sc.goes_good ah;have dv:=Sc.reads_le s.b o.at_;have ds:=Rp.step_ne50 bX;have d9:((A:Int)==50)=false:=by rw[AM];omega
 obtain⟨m,y,dr,bN,b1,df⟩:=Rp.kept_goes ah;have d1:=(Sc.goes_good bN).2.1;have b2:=gQq bN;have b6:=gQq b1;have cu:=gQq ah;have b3:=gQq b0;have cr:=gQq hd;have ct:=gQq bp;obtain⟨M,cj⟩:∃M,M=s.told+o.read+Sc.reads s.b o.at_:=⟨_,rfl⟩;have em:M<=s.told+1000000000:=by omega
 rw[<-cj] at a2;have E:Hid (Rp.look s.b j o.at_ A=if A≠140∧Rp.bad s.b o.at_=true then qx 150 else .ok (Rp.kept s.b j)):=rfl;have ak:Hid (∀w1,av w1 B g v { s with told:=M } x k->Aside (fun i=>i=g) w w1->AZ AW 118 #[N (I ⟨g,0,O⟩),U R (o.at_:Nat)] w1 fun e w'=>e=qz (.bool (Rp.bad s.b o.at_))∧av w' B g v { s with told:=M+(s.b.length-o.at_) } x k∧Aside (fun i=>i=g) w1 w'):=fun w1 S ha1=>oS S bT (by show M<=_;omega) (b3.out.on (ha1.below (B:=B) (by omega) (fun i hi ab=>by omega)) hB) hB o.at_ cb;have be:Hid (∀w1 t J Z,t<=s.told+3000000000->av w1 B g v { s with told:=t } x k->Aside (fun i=>i=g) w w1->Sc.goes s.b J=I Z->AZ AW 119 #[N (I ⟨g,0,O⟩),U R (Sc.Pos.at_ Z:Nat)] w1 fun e w'=>∃v' a5 a8,e=qz (oq #[N (I ⟨w1.1.size+1,0,O⟩),U R (Rp.kept s.b J:Nat)])∧au w' w1.1.size (w1.1.size+1) w1.1.size J v' a5 Z.wk (fun i=>i=g∨v.ownBlock=I i)∧a8<=t+1000000000∧av w' B g v { s with told:=a8 } x k∧Aside (fun i=>i=g) w w'):=fun w1 t J Z eq S ha1 c9=>
  (vV (G:=fun i=>i=g∨v.ownBlock=I i) S cr.out bT (by show t<=_;omega) (b3.out.on (ha1.below (B:=B) (by omega) (fun i hi ab=>by omega)) hB) hB (by have:=ha1.size;omega) (fun i hi=>hi) (fun i hi=>AF (ct.out i hi) ha1.size) c9).mono (fun e w' ⟨v',a5,a8,bi,bj,bk,c5,bl⟩=>⟨v',a5,a8,bi,bj,bk,c5,ha1.trans bl (fun _ _ h=>h)⟩)
 obtain⟨L,bn⟩:∃L,L=o.at_:=⟨_,rfl⟩;rw[<-bn] at a2 E ak cb ⊢;have cs:=gQq bn;have ea:(L:Int)<=2097152:=by omega
 obtain⟨K,a6⟩:∃K,K=Rp.kept s.b j:=⟨_,rfl⟩;rw[<-a6] at E;have bc:=gQq a6;have ec:K<=2097152:=by rw[a6,<-b1];omega
 have eb:(K:Int)<=2097152:=by omega
 clear h hd b0 ah bX b7 b8 bp c8 c7 du dv ds bN b1 df dr bn a6 d1 cj;go_enter func88,ntmps88;go_wp2_with fail;refine a2.out.mono ?_;rintro e w1 ⟨rfl,S,ha1⟩;have aw:=gQq S;have V:=gQq ha1;clear S ha1 a2;by_cases X:A=140
 case' pos=>
  have cy:((A:Int) != 140)=false:=by rw[bne_eq_false_iff_eq];omega
  have a1:Hid (Rp.look s.b j L A=.ok K):=by show _=_;rw[E.out,AJ (fun ab=>ab.1 X)]
  obtain⟨Q,a7⟩:∃Q,Q=w1:=⟨_,rfl⟩;obtain⟨D,aj⟩:∃D,D=M:=⟨_,rfl⟩;have d0:D<=s.told+2000000000:=by omega
  have a0:Hid (av Q B g v { s with told:=D } x k):=by rw[a7,aj];exact aw.out
  have a9:Hid (Aside (fun i=>i=g) w Q):=by rw[a7];exact V.out
  have cx:=gQq a7.symm;clear a7 aj ak aw V E X;go_wp2_with fail
 case' neg=>
  have cy:((A:Int) != 140)=true:=by rw[bne_iff_ne];omega
  have bb:=gQq (ak.out w1 aw.out V.out);obtain⟨z,cn⟩:∃z,z=Rp.bad s.b L:=⟨_,rfl⟩;rw[<-cn] at bb E;clear ak cn;go_wp2_with fail;refine bb.out.mono ?_;rintro e Q ⟨rfl,bO,cc⟩;have a9:Hid (Aside (fun i=>i=g) w Q):=V.out.trans cc (fun _ _ h=>h);obtain⟨D,aj⟩:∃D,D=M+(s.b.length-L):=⟨_,rfl⟩;rw[<-aj] at bO;have d0:D<=s.told+2000000000:=by omega
  have a0:=gQq bO;clear bO cc aj bb aw V;rcases z with _ | _
  case' true=>
   have a1:Hid (Rp.look s.b j L A=qx 150):=(by show _=_;rw[E.out,AK ⟨X,rfl⟩]);clear E X;go_wp2
   go_ret3
   rw[a1.out];exact⟨rfl,D,by omega,a0.out,a9.out⟩
  case' false=>
   have a1:Hid (Rp.look s.b j L A=.ok K):=(by show _=_;rw[E.out,AJ (fun ab=>by cases ab.2)]);clear E X;go_wp2_with fail
 all_goals
  (first | rw[cx.out] | skip)
  have bq:=be.out Q D j o (by omega) a0.out a9.out cu.out;rw[<-cs.out,<-bc.out] at bq;have b4:=gQq bq;clear bq a0;refine b4.out.mono ?_;rintro e d4 ⟨ev,d7,d2,rfl,-,en,cd,bv⟩;have bs:=be.out d4 d2 m y (by omega) cd bv b2.out;rw[b6.out,<-bc.out] at bs;have b5:=gQq bs;have cp:=gQq bv;clear bs cd bv b4 be;go_wp2_with fail;refine b5.out.mono ?_;rintro e w4 ⟨ew,d8,d3,rfl,ck,ep,ci,b9⟩;have cw:=gQq ck;have cv:=gQq ci;have cq:=gQq b9;clear ck ci b9 b5;go_wp2
  go_ret3
  rw[a1.out];exact⟨⟨_,_,_,_,_,_,m,y,rfl,cw.out,cp.out.size,b2.out,by rw[b6.out,bc.out]⟩,d3,by omega,cv.out,cq.out⟩
end
end
section
open Go.RowKit Go.Maps
theorem uA{s:Dv.St}(h:s.b.length=K):Rp.do_ s (.ok K)=(0,0,s):=by
 show(if _ then _ else _)=_;rw[AK h]
theorem yA{s:Dv.St}(h:¬s.b.length=K):Rp.do_ s (.ok K)=if (Dv.cut s K).1=0 then (s.b.length-K,0,(Dv.cut s K).2) else (0,(Dv.cut s K).1,(Dv.cut s K).2):=by
 show(if s.b.length=K then _ else _)=_;rw[AJ h]
theorem uH(s:Dv.St)(t:Nat)(n:Int):(Dv.cut { s with told:=t } n).1=(Dv.cut s n).1:=by
 unfold Dv.cut;have o:Dv.may { s with told:=t }=Dv.may s:=rfl;simp only[o];split
 ·rfl
 ·split
  ·rfl
  ·split <;> rfl
section
variable {w:wv} {B g x k:Nat} {v:AQ} {s:Dv.St}
def nv(c:Nat):Value:=if c=0 then .nilIface else ii c
theorem r8(c:Nat)(w:wv)(y:He w):AZ AW 62 #[nv c] w fun e w'=>e=qz (U R (c:Nat))∧AX w.1.size w w':=by
 unfold nv;by_cases o:c=0
 ·rw[AK o,o];exact r7 w
 ·rw[AJ o];exact kS (c:Nat) w y
def vf(w:wv)(B g:Nat)(v:AQ)(s:Dv.St)(r:Except Nat Nat)(w':wv):Prop :=
 ∃t v' x' k',t<=s.told+4000000000∧av w' B g v' (Rp.do_ { s with told:=t } r).2.2 x' k'∧Aside (fun i=>i=g∨v.ownBlock=I i) w w'∧∀i,v'.ownBlock=I i->v.ownBlock=I i∨w.1.size<=i
theorem tY(h:av w B g v s x k)(hd:s.down=wx)(a0:s.b.length<=2097152)(bO:s.safe<=s.b.length)(cd:s.done<4611686018427387904)(cj:s.told<=100000000000000)(b0:Hv w)(cb:2<B){j E:Nat}{o:Sc.Pos}(bq:Sc.goes s.b j=I o)(bT:Sc.step s.b o=qx E):
  AZ AW 61 #[N (I ⟨g,0,O⟩)] w fun e w'=>e=qz (oq #[U R ((Rp.do_ s (Rp.look s.b j o.at_ E)).1:Nat),nv (Rp.do_ s (Rp.look s.b j o.at_ E)).2.1])∧vf w B g v s (Rp.look s.b j o.at_ E) w':=by
 have aj:=gQq (yb h hd a0 cj b0 cb bq bT);have a1:∀c,Rp.look s.b j o.at_ E=qx c->c≠0:=fun c Z=>by
  unfold Rp.look at Z;split at Z
  ·cases Z;decide
  ·cases Z
 obtain⟨r,bN⟩:∃r,r=Rp.look s.b j o.at_ E:=⟨_,rfl⟩;rw[<-bN] at aj a1 ⊢;have b6:=gQq a1;clear h hd b0 bq bT bN a1;go_enter func61,ntmps61;go_wp2_with fail;refine aj.out.mono ?_;rintro e w1 ⟨X,t,ab,bs,bl⟩;have S:=gQq bs;have HA1:Hid (Aside (fun i=>i=g∨v.ownBlock=I i) w w1):=bl.mono fun i _ hi=>.inl hi;clear bs bl aj;cases r with
 |error c=>
  replace X:e=qz (oq #[U R 0,N O,.iface 166 (nx #[U R (c:Nat)])]):=X
  subst X;have ci:=b6.out c rfl;go_wp2;go_ret2;refine⟨?_,t,v,x,k,ab,S.out,HA1.out,fun i hi=>.inl hi⟩;show _=qz (oq #[U R ((0:Nat):Int),nv c]);unfold nv;rw[AJ ci];rfl
 |ok K=>
  obtain⟨a,M,B',n,v',co,m,y,rfl,-,-,bp,b3⟩:=X;have cc:K<=s.b.length:=by rw[<-b3];exact(Sc.goes_good bp).2.1
  have a8:=gQq (m9 S.out);have a5:=gQq (zU S.out (K:Nat) bO a0 cd);have bX:((s.b.length-K:Nat):Int)=(s.b.length:Int)-(K:Int):=by omega
  have b7:=gQq bX;obtain⟨A,V⟩:∃A,A=s.b.length:=⟨_,rfl⟩;have bk:AZ AW 11 #[N (I ⟨g,0,O⟩)] w1 fun e w'=>e=qz (U R (A:Nat))∧w'=w1:=by rw[V];exact a8.out
  have a9:=gQq bk;rw[<-V] at cc a0;have ak:=gQq V;clear bp b3 bX bk a8 V bO;go_wp2_with fail;refine a9.out.mono ?_;rintro e w' ⟨rfl,b2⟩;rw[b2];clear b2 w' a9;by_cases bj:A=K
  ·have b8:((A:Int)-(K:Int)==0)=true:=(by rw[beq_iff_eq];omega);have bc:∀s':Dv.St,s'.b=s.b->Rp.do_ s' (.ok K)=(0,0,s'):=fun s' a2=>uA (by rw[a2,<-ak.out];exact bj);have a6:=gQq bc;clear bc;go_wp2;go_ret2;refine⟨?_,t,v,x,k,ab,?_,HA1.out,fun i hi=>.inl hi⟩
   ·rw[a6.out s rfl];rfl
   ·rw[a6.out { s with told:=t } rfl];exact S.out
  ·have b8:((A:Int)-(K:Int)==0)=false:=(by rw[AM];omega);have be:∀s':Dv.St,s'.b=s.b->Rp.do_ s' (.ok K)=if (Dv.cut s' K).1=0 then (s'.b.length-K,0,(Dv.cut s' K).2) else (0,(Dv.cut s' K).1,(Dv.cut s' K).2):=fun s' a2=>yA (by rw[a2,<-ak.out];exact bj);have bi:(Dv.cut { s with told:=t } (K:Nat)).1=(Dv.cut s (K:Nat)).1:=uH s t K;have Q:=gQq be;have ah:=gQq bi;clear be bi;go_wp2_with fail;refine a5.out.mono ?_;rintro e ck ⟨rfl,a3,b5,b4,bv,bn,b1⟩;have a7:=gQq bv;have a4:Hid (Aside (fun i=>i=g∨v.ownBlock=I i) w ck):=HA1.out.trans bn (fun _ _ h=>h);have bb:Hid (∀i,a3.ownBlock=I i->v.ownBlock=I i∨w.1.size<=i):=fun i hi=>(b1 i hi).imp id (fun h=>AG HA1.out.size h);obtain⟨D,aw⟩:∃D,D=(Dv.cut { s with told:=t } (K:Nat)).1:=⟨_,rfl⟩;rw[<-aw];have J:=gQq aw;clear bv bn b1 a5 aw;by_cases L:D=0
   ·have b9:((D:Int) != 0)=false:=(by rw[bne_eq_false_iff_eq];omega);go_wp2;go_ret2;refine⟨?_,t,a3,b5,b4,ab,?_,a4.out,bb.out⟩
    ·rw[Q.out s rfl,AK (by rw[<-ah.out,<-J.out];exact L)];show _=qz (oq #[U R ((s.b.length-K:Nat):Int),.nilIface]);rw[b7.out,<-ak.out];rfl
    ·rw[Q.out { s with told:=t } rfl,AK (by rw[<-J.out];exact L)];exact a7.out
   ·have b9:((D:Int) != 0)=true:=(by rw[bne_iff_ne];omega);go_wp2;go_ret2;refine⟨?_,t,a3,b5,b4,ab,?_,a4.out,bb.out⟩
    ·rw[Q.out s rfl,AJ (by rw[<-ah.out,<-J.out];exact L),<-ah.out,<-J.out];show _=qz (oq #[U R ((0:Nat):Int),nv D]);unfold nv;rw[AJ L];rfl
    ·rw[Q.out { s with told:=t } rfl,AJ (by rw[<-J.out];exact L)];exact a7.out
theorem kDo(h:av w B g v s x k)(hd:s.down=wx)(a7:s.b.length<=2097152)(aj:s.safe<=s.b.length)(a5:s.done<4611686018427387904)(a8:s.told<=100000000000000)(aw:Hv w)(S:He w)(a4:2<B){j A:Nat}{y:Sc.Pos}(X:Sc.goes s.b j=I y)(ak:Sc.step s.b y=qx A):
  AZ AW 39 #[N (I ⟨g,0,O⟩)] w fun e w'=>e=qz (oq #[U R ((Rp.do_ s (Rp.look s.b j y.at_ A)).1:Nat),U R ((Rp.do_ s (Rp.look s.b j y.at_ A)).2.1:Nat)])∧vf w B g v s (Rp.look s.b j y.at_ A) w':=by
 have E:=gQq (tY h hd a7 aj a5 a8 aw a4 X ak);have a1:=gQq S;have bj:=h.base;have a2:Hid (∀i,v.ownBlock=I i->B<=i):=fun i a6=>(h.has.lt i a6).1;obtain⟨r,ah⟩:∃r,r=Rp.look s.b j y.at_ A:=⟨_,rfl⟩;rw[<-ah] at E ⊢;obtain⟨n,ab⟩:∃n,n=(Rp.do_ s r).1:=⟨_,rfl⟩;obtain⟨c,o⟩:∃c,c=(Rp.do_ s r).2.1:=⟨_,rfl⟩;rw[<-ab,<-o] at E ⊢;clear h hd aw S X ak ah ab o aj;go_enter func39,ntmps39;go_wp2_with fail;refine E.out.mono ?_;rintro e w1 ⟨rfl,t,v',D,k',a9,Z,L,a0⟩;have J:=gQq (r8 c w1 (a1.out.aside L (fun o=>by
  rcases o with o | o
  ·omega
  ·have:=a2.out _ o;omega)))
 obtain⟨fl,V⟩:∃fl,fl=nv c:=⟨_,rfl⟩;rw[<-V] at J ⊢;have a3:Hid (∃t v' D k',t<=s.told+4000000000∧av w1 B g v' (Rp.do_ { s with told:=t } r).2.2 D k'∧Aside (fun i=>i=g∨v.ownBlock=I i) w w1∧∀i,v'.ownBlock=I i->v.ownBlock=I i∨w.1.size<=i):=⟨t,v',D,k',a9,Z,L,a0⟩;clear Z L a0 V E;go_wp2_with fail;refine J.out.mono ?_;rintro e bk ⟨rfl,Q⟩;have M:=gQq Q;clear Q J;go_wp2;go_ret2;obtain⟨t,v',D,k',bb,bc,be,bi⟩:=a3.out;exact⟨rfl,t,v',D,k',bb,bc.below M.out,be.trans (af M.out _) (fun _ _ h=>h),bi⟩
end
end
end Go.Proofs.YtngmnfdaedlodaaGreatDoor
