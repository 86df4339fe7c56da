import Derived.Test.YtbahfgdbjgkklaaGreatDoorB33
import Derived.DeepKeys4
import Derived.Deep.OwnRows
set_option maxRecDepth 100000
set_option maxHeartbeats 4000000
namespace Go.Proofs.YtbahfgdbjgkklaaGreatDoor
variable{i:Nat}{w wr:World}{b:L8}
section
open Go.RowKit
theorem kG{l s:L8}(I:s.length<=l.length)(h:∀j,j<i->l[j]?=s[j]?)(z:i<=s.length)(o:i=s.length∨l[i]?≠s[i]?):Blk.alike l s=i:=by
 have D:=Blk.alike_ge l s i (by omega) z h;have E:=(Blk.alike_le l s).2;rcases o with o | o
 ·omega
 ·rcases Nat.lt_or_ge i (Blk.alike l s) with y | y
  ·exact absurd (Blk.alike_eq l s i y) o
  ·omega
theorem yP(l s:L8)(p q:OA)(c d:Nat)(w:World)(U:s.length<=l.length)(ak:s.length<=255)(a2:l.length<=2048)(W:At w p l)(X:At w q s):
  Calls Tryz.prog 200 #[.slice p l.length c,.slice q s.length d] w fun e w'=>e=.returned (.int .i64 (Blk.alike l s:Nat))∧w'=w:=by
 by_cases ah:s.length=0
 ·have L:Blk.alike l s=0:=by have:=(Blk.alike_le l s).2;omega
  rw[ah,L];clear L ak;go_enter Tryz.func200,Tryz.ntmps200;go_wp2_with fail;go_loop [9] (fun v=>v=.int .i64 0) (fun _=>0);case atStart=>exact rfl
  case round=>
   subst hrel;go_wp2;go_ret;exact⟨rfl,rfl⟩
 ·obtain⟨a0,a3,rfl,-,M⟩:=aC W (by omega);obtain⟨a1,a4,rfl,-,O⟩:=aC X (by omega);have Y:=gQq M;have Z:=gQq O;clear M O W X;go_enter Tryz.func200,Tryz.ntmps200;go_wp2_with fail;go_loop [5,6,9] (fun _ _ v=>∃i:Nat,v=.int .i64 i∧i<=s.length∧Hid (∀j,j<i->l[j]?=s[j]?)) (fun _ _ v=>s.length-(intOf v).toNat);case atStart=>exact⟨0,rfl,Nat.zero_le _,fun j aj=>by omega⟩
  case round=>
   obtain⟨i,rfl,S,o⟩:=hrel;by_cases Q:i=s.length
   ·have I:=gQq (kG U o.out S (.inl Q));clear o;subst Q;go_wp2;go_ret;exact⟨by rw[I.out];rfl,rfl⟩
   ·have V:i<s.length:=(by omega);have J:=Y.out i (by omega);have K:=Z.out i V;have z:l[i]?=some l[i]:=List.getElem?_eq_getElem (by omega);have D:s[i]?=some s[i]:=List.getElem?_eq_getElem V;by_cases y:l[i]=s[i]
    ·rw[y] at J;have ab:Hid (∀j,j<i+1->l[j]?=s[j]?):=by
      intro j aj;by_cases e:j=i
      ·subst e;rw[z,D,y]
      ·exact o.out j (by omega)
     have E:s[i].toNat<256:=s[i].toNat_lt;generalize s[i].toNat=v at J K E;clear z D y o;go_wp2;go_round;case rel=>exact⟨i+1,by go_num,by omega,ab.out⟩
     case measure=>simp[intOf];omega
    ·have I:=gQq (kG U o.out S (.inr (by rw[z,D];intro E;exact y (Option.some.inj E))));have hb:(((l[i].toNat:Nat):Int) != ((s[i].toNat:Nat):Int))=true:=by
      rw[bne_iff_ne];intro E;exact y (UInt8.toNat_inj.1 (by omega))
     generalize l[i].toNat=u at J hb;generalize s[i].toNat=v at K hb;clear z D y o;go_wp2;go_ret;exact⟨by rw[I.out];rfl,rfl⟩
def vY(w:World)(B:Nat)(v:Value)(ys:L8)(e:Ending)(w':World):Prop :=
 ∃q cap,e=.returned (.slice q ys.length cap)∧Has w' B (.slice q ys.length cap) ys∧Aside (fun k=>v.ownBlock=some k) w w'∧∀k,(Value.slice q ys.length cap).ownBlock=some k->v.ownBlock=some k∨w.1.size<=k
theorem lV{w1 o D w4:World}{v z:Value}(y:Below w.1.size w w1)(K:Aside (fun k=>v.ownBlock=some k) w1 o)(Q:∀k,z.ownBlock=some k->v.ownBlock=some k∨w1.1.size<=k)(L:Below o.1.size o D)(M:Aside (fun k=>z.ownBlock=some k) D w4):Aside (fun k=>v.ownBlock=some k) w w4:=by
 have E:=al y (fun k=>v.ownBlock=some k);have I:=E.trans K (fun _ _ h=>h);have J:=I.trans (al L (fun k=>v.ownBlock=some k)) (fun _ _ h=>h);exact J.trans M (fun i S O=>by
  rcases Q i O with h | h
  ·exact h
  ·have:=y.size;omega)
theorem qO(p l:L8)(B:Nat)(K:Value)(q:OA)(c:Nat)(w:World)(a4:B<=w.1.size)(bq:p.length<=1000000)(bp:l.length<=2048)(hb:Has w B K p)(V:AtB w B q l):
    Calls Tryz.prog 148 #[K,.slice q l.length c] w (vY w B K (Blk.putL p l)):=by
  obtain⟨a7,cap,rfl,-,bn⟩:=hb.at;have I:=gQq hb;have a0:=gQq V;clear hb V;unfold Blk.putL;by_cases z:l=[]
  · rw[if_pos z];subst z;go_enter Tryz.func148,Tryz.ntmps148;go_wp2;go_ret;exact⟨a7,cap,rfl,I.out,Aside.refl _ _,fun k o=>.inl o⟩
  · rw[if_neg z];have bi:((l.length:Int)==0)=false:=by
      rw[beq_eq_false_iff_ne];have:=List.length_pos_iff.2 z;omega
    have Q:Hid (∀L:Int,L=((2*l.length:Nat):Int)->Calls Tryz.prog 107 #[.int .u64 L] w fun e w'=>∃g cap,e=.returned (.slice (some ⟨g,0,none⟩) (Leb.put (2*l.length)).length cap)∧bh w' w.1.size g cap (Leb.put (2*l.length))∧Below w.1.size w w'):=fun L a6=>by
      subst a6;exact dT _ (by omega) w
    have a5:=Leb.put_length_le (2*l.length);obtain⟨u,X⟩:∃u,u=Leb.put (2*l.length):=⟨_,rfl⟩;rw[<-X] at Q a5 ⊢;clear X z;go_enter Tryz.func148,Tryz.ntmps148;go_wp2_with fail;refine(Q.out _ (by omega)).mono ?_;rintro e w1 ⟨g,bc,rfl,U,J⟩;have ak:=gQq U;have E:=gQq J;have bj:=J.size;clear U J
    go_wp2_with (first|(at_builtin;refine aE (I.out.on E.out) ak.out.at (by omega) (by omega) rfl rfl rfl rfl rfl ?_;intro a9 bs be W S D y o;have M:=gQq (aB y (I.out.on E.out) (by omega));have ab:=gQq D;have br:a9.length<=1100000:=(by rw[S.out,List.length_append];omega);have a1:=gQq ((a0.out.keep (E.out.mono a4)).keep M.out);have bk:=M.out.size;have Y:=gQq y;have O:=gQq o;clear y o D)|(at_builtin;refine aE ab.out a1.out.at_ (by omega) (by omega) rfl rfl rfl rfl rfl ?_;intro zs a8 a3 bb a2 D y o;have Z:=gQq y;have aj:=gQq o;have ah:=gQq D;clear y o D))
    go_ret;have e:zs=p++(u++l):=(by rw[a2.out,S.out,List.append_assoc]);rw[<-e];refine⟨a8,a3,rfl,ah.out,lV E.out Y.out O.out gQz Z.out,fun k o=>?_⟩;rcases aj.out k o with h | h
    · rcases O.out k h with h | h
      · exact .inl h
      · exact .inr (by omega)
    · exact .inr (by omega)
theorem wO(p:L8)(m:Blk.Mt)(B:Nat)(V:Value)(w:World)(b5:B<=w.1.size)(ca:p.length<=1000000)(bp:m.size<=255)(bq:m.back<=1024)(hb:Has w B V p):
    Calls Tryz.prog 147 #[V,.agg #[.int .i64 (m.size:Nat),.int .i64 (m.back:Nat)]] w (vY w B V (Blk.putM p m)):=by
  obtain⟨bN,cap,rfl,-,b9⟩:=hb.at;unfold Blk.putM;obtain⟨z,S⟩:∃z,z=m.size:=⟨_,rfl⟩;obtain⟨o,Q⟩:∃o,o=m.back:=⟨_,rfl⟩;rw[<-S,<-Q];rw[<-S] at bp;rw[<-Q] at bq;clear S Q m;obtain⟨J,K⟩:∃J,J=w.alloc (.cells #[.int .i64 (z:Nat),.int .i64 (o:Nat)] 230):=⟨_,rfl⟩;have X:Hid (Below w.1.size w J):=by rw[K];exact gQy
  have b3:J.cell? ⟨w.1.size,0,none⟩=some (.int .i64 z):=by rw[K];simp
  have bj:J.cell? ⟨w.1.size,1,none⟩=some (.int .i64 o):=by rw[K];simp
  have cb:J.1.size=w.1.size+1:=by rw[K];simp
  have Z:=gQq (hb.on X.out);have a8:Hid (∀k,(Value.slice bN p.length cap).ownBlock=some k->k<w.1.size):=fun k y=>(hb.lt k y).2;have ah:Hid (∀(W:World) (I:Int),I=((2*z+1:Nat):Int)->Calls Tryz.prog 107 #[.int .u64 I] W fun e w'=>∃g cap,e=.returned (.slice (some ⟨g,0,none⟩) (Leb.put (2*z+1)).length cap)∧bh w' W.1.size g cap (Leb.put (2*z+1))∧Below W.1.size W w'):=fun W I U=>by
    subst U;exact dT _ (by omega) W
  have aj:Hid (∀(W:World) (I:Int),I=((o:Nat):Int)->Calls Tryz.prog 107 #[.int .u64 I] W fun e w'=>∃g cap,e=.returned (.slice (some ⟨g,0,none⟩) (Leb.put o).length cap)∧bh w' W.1.size g cap (Leb.put o)∧Below W.1.size W w'):=fun W I U=>by
    subst U;exact dT _ (by omega) W
  have br:=Leb.put_length_le (2*z+1);have bs:=Leb.put_length_le o;obtain⟨u,a0⟩:∃u,u=Leb.put (2*z+1):=⟨_,rfl⟩;obtain⟨v,a1⟩:∃v,v=Leb.put o:=⟨_,rfl⟩;rw[<-a0] at ah br ⊢;rw[<-a1] at aj bs ⊢;have bc:=gQq K;clear a0 a1 K hb;go_enter Tryz.func147,Tryz.ntmps147;go_wp2_with fail;rw[<-bc.out];refine(ah.out _ _ (by omega)).mono ?_;rintro e w1 ⟨g,b0,rfl,M,E⟩;have a9:=gQq M;have O:=gQq E;have b6:=E.size;have bk:w1.cell? ⟨w.1.size,1,none⟩=some (.int .i64 o):=by rw[O.out.cell (p:=⟨w.1.size,1,none⟩) (by show w.1.size<_;omega)];exact bj
  clear M E
  go_wp2_with (first
    | (at_builtin;refine aE (Z.out.on O.out) a9.out.at (by omega) (by omega) rfl rfl rfl rfl rfl ?_;intro bT cd b2 W ak L D y;have a4:=gQq (aB D (Z.out.on O.out) (by omega));have f1:W.cell? ⟨w.1.size,1,none⟩=some (.int .i64 o):=by
         rw[D.cell (p:=⟨w.1.size,1,none⟩) (by show w.1.size<_;omega) (fun bn=>by have:=a8.out _ bn;exact absurd this (Nat.lt_irrefl _))];exact bk
       have a5:=gQq L;have cc:bT.length<=1100000:=(by rw[ak.out,List.length_append];omega);have b7:=a4.out.size;have a2:=gQq D;have ab:=gQq y;clear D y L)
    |fail)
  refine(aj.out _ _ (by omega)).mono ?_;rintro e ce ⟨b4,b1,rfl,M,E⟩;have bb:=gQq M;have Y:=gQq E;have b8:=E.size;clear M E
  go_wp2_with (first|(at_builtin;refine aE (a5.out.on Y.out) bb.out.at (by omega) (by omega) rfl rfl rfl rfl rfl ?_;intro zs bO bi bX be L D y;have a3:=gQq D;have a7:=gQq y;have a6:=gQq L;clear D y L)|fail)
  go_ret;have e:zs=p++(u++v):=by rw[be.out,ak.out,List.append_assoc]
  rw[<-e];refine⟨bO,bi,rfl,a6.out,lV (X.out.trans (O.out.mono (by omega))) a2.out ab.out Y.out a3.out,fun k y=>?_⟩;rcases a7.out k y with h | h
  · rcases ab.out k h with h | h
    · exact .inl h
    · exact .inr (by omega)
  · exact .inr (by omega)
end
section
open Go.RowKit Go.Maps
theorem yt:laidOutB Tryz.prog=true:=by kernel_rfl
theorem uO:(277:TypeId)<Tryz.prog.types.size:=of_decide_eq_true (by kernel_rfl)
theorem sC:(match Tryz.prog.underlying 277 with | some (.array _ _) | some (.struct _)=>true | _=>false)=true:=by kernel_rfl
theorem yr:Keyed Tryz.prog 277:=Keyed.of_law (deep_law_laid yt (m:=3) (by omega) uO (by kernel_rfl) sC)
theorem qB(w:World):(zeroValue 3).run Tryz.prog w=.ok (.int .i64 0) w:=by kernel_rfl
theorem sD:Tryz.prog.keyType 277=true:=by kernel_rfl
theorem ke:Tryz.prog.cellsOf 277=4:=by kernel_rfl
theorem qa:Tryz.prog.cellsOf 5=1:=by kernel_rfl
theorem sE:∃n,Tryz.prog.types.size+1=n+2:=⟨Tryz.prog.types.size-1,by kernel_rfl⟩
theorem wW(a:Nat)(h:a<256):(Lit.int .u8 (a:Int)).wf=true:=by
 have:∀i:Fin 256,(Lit.int .u8 ((i.val:Nat):Int)).wf=true:=by decide +kernel
 exact this ⟨a,h⟩
theorem p8(a:Nat)(h:a<256):Lit.keyBytes (.int .u8 (a:Int))=[UInt8.ofNat a]:=by
 show bytesBE 1 ((a:Int) % 2 ^ 8).toNat=_;have e:((a:Int) % 2 ^ 8).toNat=a:=by omega
 rw[e];show[UInt8.ofNat (a % 256)]=_;rw[Nat.mod_eq_of_lt h]
theorem zq(n a:Nat)(h:a<256):Tryz.prog.keyLits (n+1) 5 [.int .u8 (a:Int)]=some [.int .u8 (a:Int)]:=by
 unfold Program.keyLits;simp only[Tryz.underlying5];rw[if_pos ⟨trivial,wW a h⟩]
theorem wX(a b c d:Nat)(o:a<256)(hb:b<256)(y:c<256)(hd:d<256):keyOf Tryz.prog 277 (.agg #[.int .u8 a,.int .u8 b,.int .u8 c,.int .u8 d])=some (.string [UInt8.ofNat a,UInt8.ofNat b,UInt8.ofNat c,UInt8.ofNat d]):=by
 obtain⟨n,D⟩:=sE;have z:Tryz.prog.keyLits (n+2) 277 [.int .u8 a,.int .u8 b,.int .u8 c,.int .u8 d]=some [.int .u8 a,.int .u8 b,.int .u8 c,.int .u8 d]:=by
  unfold Program.keyLits;simp only[Tryz.underlying277];rw[if_pos (by rw[ke];rfl),qa,show List.range 4=[0,1,2,3] from rfl];simp[zq,o,hb,y,hd]
 unfold keyOf;rw[D];simp only[Tryz.underlying277];rw[if_pos (by rw[sD];simp[Value.formed,Tryz.underlying277,ke])];show(Tryz.prog.keyLits (n+2) 277 [.int .u8 a,.int .u8 b,.int .u8 c,.int .u8 d]).map _=_;rw[z];simp[keyBytes,p8,o,hb,y,hd]
end
section
open Go.RowKit Go.Maps
theorem xd:(Tryz.prog.info? 3).map (fun i=>(i.zero,i.size,i.bytes))=some (some (.int .i64 0),1,8):=by kernel_rfl
theorem mB(n:Int)(w:World):(Instr.makeMap 275 (some (.int .i64 n))).run Tryz.prog w=.ok (.map (some w.1.size)) (w.alloc (.map #[] 0)):=by
 simp[Instr.makeMap,run_underlying Tryz.underlying275,asInt,asIntOf]
structure oQ(w:World)(M n:Nat)(b:L8)(i:Nat):Prop where
 out:∃D:DataW Unit,w.ownsMap Tryz.prog 277 (plainElem Tryz.prog 3) M n D∧∀f:L8,f.length=4->D.atKey (.string f) (.lit (.int .i64 0))=.lit (.int .i64 (Blk.last b f i:Nat))
theorem pZ(w:World)(b:L8):oQ (w.alloc (.map #[] 0)) w.1.size 0 b 0:=⟨.map [],World.ownsMap_made _ _ _ _,fun _ _=>rfl⟩
theorem oQ.keep{w':World}{o n:Nat}(h:oQ w o n b i)(hb:w'.1[o]?=w.1[o]?):oQ w' o n b i:=by
 obtain⟨y,⟨es,clock,z,D⟩,E⟩:=h.out;exact⟨y,⟨es,clock,hb.trans z,D⟩,E⟩
structure Seen(w wr:World)(b:L8)(i:Nat):Prop where
 low:Below w.1.size w wr
 map:oQ wr w.1.size i b i
 row:wr.rowIs (w.1.size+1) 3 b.length (fun j=>.int .i64 ((if j<i then Blk.ahead b j else 0:Nat):Int))
 var:wr.rowIs (w.1.size+1+1) 276 1 (fun _=>.slice (some ⟨w.1.size+1,0,none⟩) b.length b.length)
theorem pz(w:World)(b:L8):Seen w (((w.alloc (.map #[] 0)).alloc (.cells (madeCells #[.int .i64 0] b.length) 3)).alloc (.cells #[.slice (some ⟨w.1.size+1,0,none⟩) b.length b.length] 276)) b 0:=by
 have o:(w.alloc (.map #[] 0)).1.size=w.1.size+1:=by simp
 have y:((w.alloc (.map #[] 0)).alloc (.cells (madeCells #[.int .i64 0] b.length) 3)).1.size=w.1.size+1+1:=by simp
 refine⟨(gQy.alloc (by rw[o];omega) _).alloc (by rw[y];omega) _,?_,?_,?_⟩
 ·exact(pZ w b).keep (((MapKept.heap_alloc _ _).2 _ (by rw[y];omega)).trans ((MapKept.heap_alloc _ _).2 _ (by rw[o];omega)))
 ·have h:=World.rowIs_made (w.alloc (.map #[] 0)) (.int .i64 0) b.length 3;rw[o] at h;exact(h.alloc _).congr (fun j _=>by rw[if_neg (by omega)];rfl)
 ·have h:=World.rowIs_alloc ((w.alloc (.map #[] 0)).alloc (.cells (madeCells #[.int .i64 0] b.length) 3)) #[.slice (some ⟨w.1.size+1,0,none⟩) b.length b.length] 276 (fun _=>.slice (some ⟨w.1.size+1,0,none⟩) b.length b.length) (fun i z=>by
   have:i=0:=(by simp at z;omega);subst this;rfl)
  rw[y] at h;exact h
theorem xh(b:L8)(i:Nat)(h:i+4<=b.length):Blk.four b i=[UInt8.ofNat b[i].toNat,UInt8.ofNat b[i+1].toNat,UInt8.ofNat b[i+2].toNat,UInt8.ofNat b[i+3].toNat]:=by
 unfold Blk.four;rw[List.drop_eq_getElem_cons (by omega),List.drop_eq_getElem_cons (by omega),List.drop_eq_getElem_cons (by omega),List.drop_eq_getElem_cons (by omega)];simp only[List.take_succ_cons,List.take_zero,UInt8.ofNat_toNat]
theorem sB(b f:L8)(i:Nat):Blk.last b f (i+1)=if Blk.four b i=f then i+1 else Blk.last b f i:=rfl
theorem Seen.next{W:World}{o:DataW Unit}(h:Seen w wr b i)(O:i+4<=b.length)(D:∀f:L8,f.length=4->o.atKey (.string f) (.lit (.int .i64 0))=.lit (.int .i64 (Blk.last b f i:Nat)))(E:Maps.IsMap o)(I:W.ownsMap Tryz.prog 277 (plainElem Tryz.prog 3) w.1.size (i+1) (o.put (.string (Blk.four b i)) (.lit (.int .i64 ((i+1:Nat):Int)))))(K:Below w.1.size w W)(L:W.rowIs (w.1.size+1) 3 b.length (fun j=>if j=i then .int .i64 (Blk.ahead b i:Nat) else .int .i64 ((if j<i then Blk.ahead b j else 0:Nat):Int)))(M:W.rowIs (w.1.size+1+1) 276 1 (fun _=>.slice (some ⟨w.1.size+1,0,none⟩) b.length b.length)):Seen w W b (i+1):=by
 refine⟨K,⟨_,I,fun f J=>?_⟩,L.congr (fun j _=>?_),M⟩
 ·rw[sB];by_cases e:Blk.four b i=f
  ·subst e;rw[if_pos rfl,Maps.atKey_put_same E (by trivial)]
  ·rw[if_neg e,Maps.atKey_put_other (fun y=>e (by injection y with y;exact y.symm)),D f J]
 ·by_cases e:j=i
  ·subst e;rw[if_pos rfl,if_pos (by omega)]
  ·rw[if_neg e];by_cases z:j<i
   ·rw[if_pos z,if_pos (by omega)]
   ·rw[if_neg z,if_neg (by omega)]
theorem Seen.end(h:Seen w wr b i)(o:¬i+4<=b.length):wr.rowIs (w.1.size+1) 3 b.length (fun j=>.int .i64 ((Blk.ahead b j:Nat):Int)):=by
 refine h.row.congr (fun j _=>?_);by_cases e:j<i
 ·rw[if_pos e]
 ·rw[if_neg e,show Blk.ahead b j=0 by unfold Blk.ahead;rw[if_neg (by omega)]]
structure oP(w:World)(G A:Nat)(b:L8):Prop where
 row:w.rowIs A 3 b.length (fun j=>.int .i64 ((Blk.ahead b j:Nat):Int))
 var:w.rowIs G 276 1 (fun _=>.slice (some ⟨A,0,none⟩) b.length b.length)
theorem wU(b:L8)(q:OA)(c:Nat)(w:World)(hb:b.length<=2048)(b6:At w q b):
    Calls Tryz.prog 145 #[.slice q b.length c] w fun e w'=>e=.returned (.func (.func 199) #[] #[.pointer (some ⟨w.1.size+1+1,0,none⟩)])∧oP w' (w.1.size+1+1) (w.1.size+1) b∧Below w.1.size w w':=by
  have d5:=mB;have d4:∀w:World,(Instr.makeSlice 276 (.int .i64 b.length) (.int .i64 b.length)).run Tryz.prog w=.ok (.slice (some ⟨w.1.size,0,none⟩) b.length b.length) (w.alloc (.cells (madeCells #[.int .i64 0] b.length) 3)):=run_make_row' (P:=Tryz.prog) 276 3 (.int .i64 0) 8 Tryz.underlying276 xd rfl .i64 .i64 b.length (by omega) (by omega);have bn:=gQq (pz w b);have ci:=gQq (b6.atB (Nat.le_refl w.1.size));clear b6;go_enter Tryz.func145,Tryz.ntmps145;go_wp2_with fail;generalize (((w.alloc (.map #[] 0)).alloc (.cells (madeCells #[.int .i64 0] b.length) 3)).alloc (.cells #[.slice (some ⟨w.1.size+1,0,none⟩) b.length b.length] 276))=ds at bn ⊢;go_loopw [16] (fun be wr=>∃i:Nat,i<=b.length-3∧be=.int .i64 i∧Hid (Seen w wr b i)) (fun be _=>b.length-(intOf be).toNat);case atStart=>exact⟨0,Nat.zero_le _,rfl,bn⟩
  case round=>
    obtain⟨i,d2,rfl,o⟩:=hrel;by_cases a0:i+4<=b.length
    · obtain⟨bb,I,rfl,c5,bN⟩:=aC ci.out.at_ (by omega);have Z:dQ wr bb I b:=fun j c7=>by
        rw[o.out.low.cell (p:=⟨bb,I+j,none⟩) c5];exact bN j c7
      have a4:=Z i (by omega);have a5:=Z (i+1) (by omega);have a6:=Z (i+2) (by omega);have a7:=Z (i+3) (by omega);have b8:b[i].toNat<256:=b[i].toNat_lt;have b9:b[i+1].toNat<256:=b[i+1].toNat_lt;have ca:b[i+2].toNat<256:=b[i+2].toNat_lt;have cb:b[i+3].toNat<256:=b[i+3].toNat_lt;have V:=xh b i a0;generalize b[i].toNat=J at a4 b8 V;generalize b[i+1].toNat=K at a5 b9 V;generalize b[i+2].toNat=L at a6 ca V;generalize b[i+3].toNat=M at a7 cb V;clear bN Z;have dd:(0:Int)<=(i:Int)+1:=(by omega);have de:(i:Int)+1<(b.length:Int):=(by omega);have p2:(0:Int)<=(i:Int)+2:=(by omega);have df:(i:Int)+2<(b.length:Int):=(by omega);have p3:(0:Int)<=(i:Int)+3:=(by omega);have dh:(i:Int)+3<(b.length:Int):=(by omega);have di:((i:Int)+2).toNat=i+2:=(by omega);have dj:((i:Int)+3).toNat=i+3:=(by omega);have cn:∀y,(wr.alloc y).cell? ⟨bb,I+i,none⟩=some (.int .u8 J):=fun y=>by rw[((Below.refl wr.1.size wr).alloc gQx y).cell (p:=⟨bb,I+i,none⟩) (by have:=o.out.low.size;show bb<_;omega)];exact a4
      have co:∀y,(wr.alloc y).cell? ⟨bb,I+(i+1),none⟩=some (.int .u8 K):=fun y=>by rw[((Below.refl wr.1.size wr).alloc gQx y).cell (p:=⟨bb,I+(i+1),none⟩) (by have:=o.out.low.size;show bb<_;omega)];exact a5
      have cp:∀y,(wr.alloc y).cell? ⟨bb,I+(i+2),none⟩=some (.int .u8 L):=fun y=>by rw[((Below.refl wr.1.size wr).alloc gQx y).cell (p:=⟨bb,I+(i+2),none⟩) (by have:=o.out.low.size;show bb<_;omega)];exact a6
      have cq:∀y,(wr.alloc y).cell? ⟨bb,I+(i+3),none⟩=some (.int .u8 M):=fun y=>by rw[((Below.refl wr.1.size wr).alloc gQx y).cell (p:=⟨bb,I+(i+3),none⟩) (by have:=o.out.low.size;show bb<_;omega)];exact a7
      have d6:i<b.length:=(by omega);have da:i+1<b.length:=(by omega);have db:i+2<b.length:=(by omega);have dc:i+3<b.length:=(by omega);have w1:IntKind.i64.wrap ((i:Int)+1)=((i+1:Nat):Int):=(by rw[IntKind.wrap_i64];omega);have dk:IntKind.i64.wrap ((i:Int)+2)=((i+2:Nat):Int):=(by rw[IntKind.wrap_i64];omega);have dn:IntKind.i64.wrap ((i:Int)+3)=((i+3:Nat):Int):=(by rw[IntKind.wrap_i64];omega);obtain⟨D,b3,a8⟩:=o.out.map.out;have ah:=wX J K L M b8 b9 ca cb;rw[<-V] at ah;have c6:(Blk.four b i).length=4:=(by rw[V];rfl);have bs:Blk.last b (Blk.four b i) i=Blk.ahead b i:=(by unfold Blk.ahead;rw[if_pos a0]);have ak:=a8 _ c6;rw[bs] at ak;have c8:=o.out.row.lt;have c9:=o.out.var.lt;have cy:=Blk.ahead_le b i;obtain⟨X,a9⟩:∃X,X=Blk.ahead b i:=⟨_,rfl⟩;rw[<-a9] at ak cy;obtain⟨z,O⟩:∃z,z=(wr.alloc (.cells #[.int .u8 J,.int .u8 K,.int .u8 L,.int .u8 M] 277)).drew:=⟨_,rfl⟩;have a2:z.rowIs (w.1.size+1) 3 b.length (fun j=>.int .i64 ((if j<i then Blk.ahead b j else 0:Nat):Int)):=(by rw[O];exact(o.out.row.alloc _).drew);have bc:z.rowIs (w.1.size+1+1) 276 1 (fun _=>.slice (some ⟨w.1.size+1,0,none⟩) b.length b.length):=(by rw[O];exact(o.out.var.alloc _).drew);have W:z.1[wr.1.size]?=some (.cells #[.int .u8 J,.int .u8 K,.int .u8 L,.int .u8 M] 277):=(by rw[O];exact(MapKept.heap_alloc wr _).1);have a1:z.ownsMap Tryz.prog 277 (plainElem Tryz.prog 3) w.1.size i D:=(by rw[O];exact(b3.alloc _).drew);have b1:Below w.1.size w z:=by
        rw[O];have:=o.out.low.alloc o.out.low.size (.cells #[.int .u8 J,.int .u8 K,.int .u8 L,.int .u8 M] 277);exact⟨this.os,this.tape,this.output,this.size,this.block⟩
      obtain⟨E,Q⟩:∃E,E=(z.setCell ⟨w.1.size+1,i,none⟩ (.int .i64 X)).drew:=⟨_,rfl⟩;have hrow2:=(a2.set i (.int .i64 X)).drew;rw[<-Q] at hrow2;have b7:E.rowIs (w.1.size+1+1) 276 1 (fun _=>.slice (some ⟨w.1.size+1,0,none⟩) b.length b.length):=(by rw[Q];exact(bc.setOther (by show _≠w.1.size+1;omega) _).drew);have ab:E.1[wr.1.size]?=some (.cells #[.int .u8 J,.int .u8 K,.int .u8 L,.int .u8 M] 277):=by
        rw[Q];show(z.setCell _ _).1[wr.1.size]?=_;rw[Below.heap_setCell _ _ _ _ (by show _≠w.1.size+1;omega)];exact W
      have b4:E.ownsMap Tryz.prog 277 (plainElem Tryz.prog 3) w.1.size i D:=by
        obtain⟨es,clock,bq,br⟩:=a1;refine⟨es,clock,?_,br⟩;rw[Q];show(z.setCell _ _).1[w.1.size]?=_;rw[Below.heap_setCell _ _ _ _ (by show _≠w.1.size+1;omega)];exact bq
      have b2:Below w.1.size w E:=by
        rw[Q];have hd:=b1.setCell (p:=⟨w.1.size+1,i,none⟩) (by show w.1.size<=w.1.size+1;omega) (.int .i64 X);exact⟨hd.os,hd.tape,hd.output,hd.size,hd.block⟩
      have cr:=bc.cell (i:=0) (by omega);have f1:=a2.cell (i:=i) (by omega);have cs:=a2.frozen i;have ct:z.cell? ⟨wr.1.size,0,none⟩=some (.int .u8 J):=(by simp[World.cell?,W]);have cu:z.cell? ⟨wr.1.size,1,none⟩=some (.int .u8 K):=(by simp[World.cell?,W]);have cv:z.cell? ⟨wr.1.size,2,none⟩=some (.int .u8 L):=(by simp[World.cell?,W]);have cw:z.cell? ⟨wr.1.size,3,none⟩=some (.int .u8 M):=(by simp[World.cell?,W]);have d0:E.cell? ⟨wr.1.size,0,none⟩=some (.int .u8 J):=(by simp[World.cell?,ab]);have bq:E.cell? ⟨wr.1.size,1,none⟩=some (.int .u8 K):=(by simp[World.cell?,ab]);have br:E.cell? ⟨wr.1.size,2,none⟩=some (.int .u8 L):=(by simp[World.cell?,ab]);have d1:E.cell? ⟨wr.1.size,3,none⟩=some (.int .u8 M):=(by simp[World.cell?,ab]);obtain⟨dp,bX,S,-⟩:=a1.lookup_int yr Tryz.underlying275 Tryz.underlying3 (qB _) ah;obtain⟨dr,b0,U,-⟩:=(a1.drew).lookup_int yr Tryz.underlying275 Tryz.underlying3 (qB _) ah;rw[ak] at S U;injection S with S;injection S with _ S;injection U with U;injection U with _ U;rw[<-S] at bX;rw[<-U] at b0;have cj:=gQq O;have ck:=gQq Q;have bi:=gQq b2;have bk:=gQq hrow2;have bp:=gQq b7;have bj:=gQq b4;have cf:=gQq a9;have ce:=gQq ah;have cc:=gQq a8;clear O Q a2 bc W a1 b1 hrow2 b7 ab b4 b2 b3 a8 ah ak bs a9 V S U c8 c9;go_wp2_with fail
      go_region
      go_wp2_with fail;rw[<-cj.out];clear cn co cp cq a4 a5 a6 a7 dd p2 p3 de df dh w1 dk dn di dj da db dc
      go_region
      rw[<-ck.out];have d7:IntKind.i64.wrap ((i:Int)+1)=((i+1:Nat):Int):=(by rw[IntKind.wrap_i64];omega);clear cr f1 cs ct cu cv cw bX b0;have cx:Maps.IsMap D:=bj.out.isMap
      go_wp2_with (first
        | (at_mapUpdate
           refine wpList_mapUpdate_own _ rfl _ _ _ 275 rfl 277 3 yr Tryz.underlying275 _ w.1.size i D rfl bj.out (by unfold maxLen;omega) _ _ _ rfl rfl ce.out _ [] (plainElem_int Tryz.underlying3 (WalkArith.wf_i64 (by omega))) ?_;intro dv b5 bO;have cg:=gQq b5;have a3:=gQq bO;clear b5 bO)
        |fail)
      go_roundw;case rel=>
        refine⟨i+1,by omega,by go_num,?_⟩;refine o.out.next a0 cc.out cx ?_ ?_ ?_ ?_
        · exact cg.out
        · exact bi.out.grown a3.out (by have:=bi.out.size;omega) (fun k bT=>by injection bT with bT;omega)
        · rw[<-cf.out];exact bk.out.of_block (a3.out.block _ bk.out.lt (fun Y=>by injection Y with Y;omega))
        · exact bp.out.of_block (a3.out.block _ bp.out.lt (fun Y=>by injection Y with Y;omega))
      case measure=>simp[intOf];omega
    · have d3:¬(i:Int)<(b.length:Int)-3:=(by omega);have cd:=gQq (o.out.end a0);go_wp2;go_ret;exact⟨rfl,⟨cd.out,o.out.var⟩,o.out.low⟩
end
end Go.Proofs.YtbahfgdbjgkklaaGreatDoor
