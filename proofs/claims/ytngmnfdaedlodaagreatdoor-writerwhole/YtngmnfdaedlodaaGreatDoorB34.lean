import Derived.Test.YtngmnfdaedlodaaGreatDoorB33
import Derived.DeepKeys4
import Derived.Deep.OwnRows
set_option maxRecDepth 100000
set_option maxHeartbeats 4000000
namespace Go.Proofs.YtngmnfdaedlodaaGreatDoor
open Go.Proofs.Tryz
open Go.Value renaming int->I,slice->R
open Option renaming some->U,none->C
open Go.IntKind renaming u8->Y,i64->O
open Go.Proofs.Tryz renaming prog->F
open Go renaming World->N
open Go.Obj renaming cells->wx
open Go.Ending renaming returned->wv
variable{i:Nat}{w wr:N}
section
open Go.RowKit
theorem jV{l s:L8}(J:s.length<=l.length)(h:∀j,j<i->l[j]?=s[j]?)(A:i<=s.length)(o:i=s.length∨l[i]?≠s[i]?):Blk.alike l s=i:=by
 have D:=Blk.alike_ge l s i (by omega) A h;have E:=(Blk.alike_le l s).2;rcases o with o | o
 ·omega
 ·rcases Nat.lt_or_ge i (Blk.alike l s) with y | y
  ·exact absurd (Blk.alike_eq l s i y) o
  ·omega
theorem yS(l s:L8)(p q:OA)(c d:Nat)(w:N)(Z:s.length<=l.length)(a2:s.length<=255)(a5:l.length<=2048)(ah:At w p l)(ai:At w q s):
  Calls F 172 #[R p l.length c,R q s.length d] w fun e w'=>e=wv (I O (Blk.alike l s:Nat))∧w'=w:=by
 by_cases a0:s.length=0
 ·have M:Blk.alike l s=0:=by have:=(Blk.alike_le l s).2;omega
  rw[a0,M];clear M a2;go_enter func172,ntmps172;go_wp2_with fail;go_loop [9] (fun v=>v=I O 0) (fun _=>0);case atStart=>exact rfl
  case round=>
   subst hrel;go_wp2;go_ret;exact⟨rfl,rfl⟩
 ·obtain⟨a3,a6,rfl,-,Q⟩:=aP ah (by omega);obtain⟨a4,a7,rfl,-,S⟩:=aP ai (by omega);have aj:=gQq Q;have ak:=gQq S;clear Q S ah ai;go_enter func172,ntmps172;go_wp2_with fail;go_loop [5,6,9] (fun _ _ v=>∃i:Nat,v=I O i∧i<=s.length∧Hid (∀j,j<i->l[j]?=s[j]?)) (fun _ _ v=>s.length-(intOf v).toNat);case atStart=>exact⟨0,rfl,Nat.zero_le _,fun j a1=>by omega⟩
  case round=>
   obtain⟨i,rfl,X,o⟩:=hrel;by_cases V:i=s.length
   ·have J:=gQq (jV Z o.out X (.inl V));clear o;subst V;go_wp2;go_ret;exact⟨by rw[J.out];rfl,rfl⟩
   ·have ab:i<s.length:=(by omega);have K:=aj.out i (by omega);have L:=ak.out i ab;have A:l[i]?=U l[i]:=List.getElem?_eq_getElem (by omega);have D:s[i]?=U s[i]:=List.getElem?_eq_getElem ab;by_cases y:l[i]=s[i]
    ·rw[y] at K;have aw:Hid (∀j,j<i+1->l[j]?=s[j]?):=by
      intro j a1;by_cases e:j=i
      ·subst e;rw[A,D,y]
      ·exact o.out j (by omega)
     have E:s[i].toNat<256:=s[i].toNat_lt;generalize s[i].toNat=v at K L E;clear A D y o;go_wp2;go_round;case rel=>exact⟨i+1,by go_num,by omega,aw.out⟩
     case measure=>simp[intOf];omega
    ·have J:=gQq (jV Z o.out X (.inr (by rw[A,D];intro E;exact y (Option.some.inj E))));have hb:(((l[i].toNat:Nat):Int) != ((s[i].toNat:Nat):Int))=true:=by
      rw[bne_iff_ne];intro E;exact y (UInt8.toNat_inj.1 (by omega))
     generalize l[i].toNat=u at K hb;generalize s[i].toNat=v at L hb;clear A D y o;go_wp2;go_ret;exact⟨by rw[J.out];rfl,rfl⟩
def vu(w:N)(B:Nat)(v:Value)(ys:L8)(e:Ending)(w':N):Prop :=
 ∃q cap,e=wv (R q ys.length cap)∧Has w' B (R q ys.length cap) ys∧Aside (fun k=>v.ownBlock=U k) w w'∧∀k,(R q ys.length cap).ownBlock=U k->v.ownBlock=U k∨w.1.size<=k
theorem k6{w1 o D w4:N}{v A:Value}(y:Below w.1.size w w1)(L:Aside (fun k=>v.ownBlock=U k) w1 o)(V:∀k,A.ownBlock=U k->v.ownBlock=U k∨w1.1.size<=k)(M:Below o.1.size o D)(Q:Aside (fun k=>A.ownBlock=U k) D w4):Aside (fun k=>v.ownBlock=U k) w w4:=by
 have E:=af y (fun k=>v.ownBlock=U k);have J:=E.trans L (fun _ _ h=>h);have K:=J.trans (af M (fun k=>v.ownBlock=U k)) (fun _ _ h=>h);exact K.trans Q (fun i X S=>by
  rcases V i S with h | h
  ·exact h
  ·have:=y.size;omega)
theorem qg(p l:L8)(B:Nat)(L:Value)(q:OA)(c:Nat)(w:N)(a5:B<=w.1.size)(bq:p.length<=1000000)(bp:l.length<=2048)(hb:Has w B L p)(Z:AtB w B q l):
    Calls F 141 #[L,R q l.length c] w (vu w B L (Blk.putL p l)):=by
  obtain⟨a8,cap,rfl,-,bn⟩:=hb.at;have J:=gQq hb;have a1:=gQq Z;clear hb Z;unfold Blk.putL;by_cases A:l=[]
  · rw[AG A];subst A;go_enter func141,ntmps141;go_wp2;go_ret;exact⟨a8,cap,rfl,J.out,Aside.refl _ _,fun k o=>.inl o⟩
  · rw[AF A];have bj:((l.length:Int)==0)=false:=by
      rw[BQ];have:=List.length_pos_iff.2 A;omega
    have S:Hid (∀z:Int,z=((2*l.length:Nat):Int)->Calls F 86 #[I .u64 z] w fun e w'=>∃g cap,e=wv (R (U ⟨g,0,C⟩) (Leb.put (2*l.length)).length cap)∧br w' w.1.size g cap (Leb.put (2*l.length))∧Below w.1.size w w'):=fun z a7=>by
      subst a7;exact dA _ (by omega) w
    have a6:=Leb.put_length_le (2*l.length);obtain⟨u,ab⟩:∃u,u=Leb.put (2*l.length):=⟨_,rfl⟩;rw[<-ab] at S a6 ⊢;clear ab A;go_enter func141,ntmps141;go_wp2_with fail;refine(S.out _ (by omega)).mono ?_;rintro e w1 ⟨g,be,rfl,X,K⟩;have a0:=gQq X;have E:=gQq K;have bk:=K.size;clear X K
    go_wp2_with (first|(at_builtin;refine aD (J.out.on E.out) a0.out.at (by omega) (by omega) rfl rfl rfl rfl rfl ?_;intro bb bv bi W V D y o;have M:=gQq (aC y (J.out.on E.out) (by omega));have aj:=gQq D;have bs:bb.length<=1100000:=(by rw[V.out,AH];omega);have a2:=gQq ((a1.out.keep (E.out.mono a5)).keep M.out);have bl:=M.out.size;have ah:=gQq y;have Q:=gQq o;clear y o D)|(at_builtin;refine aD aj.out a2.out.at_ (by omega) (by omega) rfl rfl rfl rfl rfl ?_;intro zs a9 a4 bc a3 D y o;have ai:=gQq y;have aw:=gQq o;have ak:=gQq D;clear y o D))
    go_ret;have e:zs=p++(u++l):=(by rw[a3.out,V.out,AN]);rw[<-e];refine⟨a9,a4,rfl,ak.out,k6 E.out ah.out Q.out gQz ai.out,fun k o=>?_⟩;rcases aw.out k o with h | h
    · rcases Q.out k h with h | h
      · exact .inl h
      · exact .inr (by omega)
    · exact .inr (by omega)
theorem vW(p:L8)(m:Blk.Mt)(B:Nat)(Z:Value)(w:N)(b5:B<=w.1.size)(cb:p.length<=1000000)(bp:m.size<=255)(bq:m.back<=1024)(hb:Has w B Z p):
    Calls F 140 #[Z,.agg #[I O (m.size:Nat),I O (m.back:Nat)]] w (vu w B Z (Blk.putM p m)):=by
  obtain⟨bN,cap,rfl,-,b9⟩:=hb.at;unfold Blk.putM;obtain⟨A,V⟩:∃A,A=m.size:=⟨_,rfl⟩;obtain⟨o,S⟩:∃o,o=m.back:=⟨_,rfl⟩;rw[<-V,<-S];rw[<-V] at bp;rw[<-S] at bq;clear V S m;obtain⟨J,K⟩:∃J,J=w.alloc (wx #[I O (A:Nat),I O (o:Nat)] 226):=⟨_,rfl⟩;have ab:Hid (Below w.1.size w J):=by rw[K];exact gQy
  have b3:J.cell? ⟨w.1.size,0,C⟩=U (I O A):=by rw[K];simp
  have bk:J.cell? ⟨w.1.size,1,C⟩=U (I O o):=by rw[K];simp
  have cc:J.1.size=w.1.size+1:=by rw[K];simp
  have ai:=gQq (hb.on ab.out);have a9:Hid (∀k,(R bN p.length cap).ownBlock=U k->k<w.1.size):=fun k y=>(hb.lt k y).2;have ak:Hid (∀(W:N) (z:Int),z=((2*A+1:Nat):Int)->Calls F 86 #[I .u64 z] W fun e w'=>∃g cap,e=wv (R (U ⟨g,0,C⟩) (Leb.put (2*A+1)).length cap)∧br w' W.1.size g cap (Leb.put (2*A+1))∧Below W.1.size W w'):=fun W z X=>by
    subst X;exact dA _ (by omega) W
  have aw:Hid (∀(W:N) (z:Int),z=((o:Nat):Int)->Calls F 86 #[I .u64 z] W fun e w'=>∃g cap,e=wv (R (U ⟨g,0,C⟩) (Leb.put o).length cap)∧br w' W.1.size g cap (Leb.put o)∧Below W.1.size W w'):=fun W z X=>by
    subst X;exact dA _ (by omega) W
  have bs:=Leb.put_length_le (2*A+1);have bv:=Leb.put_length_le o;obtain⟨u,a1⟩:∃u,u=Leb.put (2*A+1):=⟨_,rfl⟩;obtain⟨v,a2⟩:∃v,v=Leb.put o:=⟨_,rfl⟩;rw[<-a1] at ak bs ⊢;rw[<-a2] at aw bv ⊢;have be:=gQq K;clear a1 a2 K hb;go_enter func140,ntmps140;go_wp2_with fail;rw[<-be.out];refine(ak.out _ _ (by omega)).mono ?_;rintro e w1 ⟨g,b0,rfl,M,E⟩;have bb:=gQq M;have Q:=gQq E;have b6:=E.size;have bl:w1.cell? ⟨w.1.size,1,C⟩=U (I O o):=by rw[Q.out.cell (p:=⟨w.1.size,1,C⟩) (by show w.1.size<_;omega)];exact bk
  clear M E
  go_wp2_with (first
    | (at_builtin;refine aD (ai.out.on Q.out) bb.out.at (by omega) (by omega) rfl rfl rfl rfl rfl ?_;intro bT ci b2 W a0 L D y;have a5:=gQq (aC D (ai.out.on Q.out) (by omega));have f1:W.cell? ⟨w.1.size,1,C⟩=U (I O o):=by
         rw[D.cell (p:=⟨w.1.size,1,C⟩) (by show w.1.size<_;omega) (fun bn=>by have:=a9.out _ bn;exact absurd this (Nat.lt_irrefl _))];exact bl
       have a6:=gQq L;have cd:bT.length<=1100000:=(by rw[a0.out,AH];omega);have b7:=a5.out.size;have a3:=gQq D;have aj:=gQq y;clear D y L)
    |fail)
  refine(aw.out _ _ (by omega)).mono ?_;rintro e cj ⟨b4,b1,rfl,M,E⟩;have bc:=gQq M;have ah:=gQq E;have b8:=E.size;clear M E
  go_wp2_with (first|(at_builtin;refine aD (a6.out.on ah.out) bc.out.at (by omega) (by omega) rfl rfl rfl rfl rfl ?_;intro zs bO bj bX bi L D y;have a4:=gQq D;have a8:=gQq y;have a7:=gQq L;clear D y L)|fail)
  go_ret;have e:zs=p++(u++v):=by rw[bi.out,a0.out,AN]
  rw[<-e];refine⟨bO,bj,rfl,a7.out,k6 (ab.out.trans (Q.out.mono (by omega))) a3.out aj.out ah.out a4.out,fun k y=>?_⟩;rcases a8.out k y with h | h
  · rcases aj.out k h with h | h
    · exact .inl h
    · exact .inr (by omega)
  · exact .inr (by omega)
end
section
open Go.RowKit Go.Maps
theorem yf:laidOutB F=true:=by kernel_rfl
theorem tY:(273:TypeId)<Tryz.prog.types.size:=of_decide_eq_true (by kernel_rfl)
theorem rK:(match Tryz.prog.underlying 273 with | some (.array _ _) | some (.struct _)=>true | _=>false)=true:=by kernel_rfl
theorem yc:Keyed F 273:=Keyed.of_law (deep_law_laid yf (m:=3) (by omega) tY (by kernel_rfl) rK)
theorem pU(w:N):(zeroValue 3).run F w=.ok (I O 0) w:=by kernel_rfl
theorem rL:Tryz.prog.keyType 273=true:=by kernel_rfl
theorem jy:Tryz.prog.cellsOf 273=4:=by kernel_rfl
theorem o8:Tryz.prog.cellsOf 5=1:=by kernel_rfl
theorem rM:∃n,Tryz.prog.types.size+1=n+2:=⟨Tryz.prog.types.size-1,by kernel_rfl⟩
theorem wh(a:Nat)(h:a<256):(Lit.int Y (a:Int)).wf=true:=by
 have:∀i:Fin 256,(Lit.int Y ((i.val:Nat):Int)).wf=true:=by decide +kernel
 exact this ⟨a,h⟩
theorem oZ(a:Nat)(h:a<256):Lit.keyBytes (.int Y (a:Int))=[UInt8.ofNat a]:=by
 show bytesBE 1 ((a:Int) % 2 ^ 8).toNat=_;have e:((a:Int) % 2 ^ 8).toNat=a:=by omega
 rw[e];show[UInt8.ofNat (a % 256)]=_;rw[Nat.mod_eq_of_lt h]
theorem zy(n a:Nat)(h:a<256):Tryz.prog.keyLits (n+1) 5 [.int Y (a:Int)]=U [.int Y (a:Int)]:=by
 unfold Program.keyLits;simp only[underlying5];rw[AG ⟨trivial,wh a h⟩]
theorem wj(a b c d:Nat)(o:a<256)(hb:b<256)(y:c<256)(hd:d<256):keyOf F 273 (.agg #[.int Y a,.int Y b,.int Y c,.int Y d])=U (.string [UInt8.ofNat a,UInt8.ofNat b,UInt8.ofNat c,UInt8.ofNat d]):=by
 obtain⟨n,D⟩:=rM;have A:Tryz.prog.keyLits (n+2) 273 [.int Y a,.int Y b,.int Y c,.int Y d]=U [.int Y a,.int Y b,.int Y c,.int Y d]:=by
  unfold Program.keyLits;simp only[underlying273];rw[AG (by rw[jy];rfl),o8,show List.range 4=[0,1,2,3] from rfl];simp[zy,o,hb,y,hd]
 unfold keyOf;rw[D];simp only[underlying273];rw[AG (by rw[rL];simp[Value.formed,underlying273,jy])];show(Tryz.prog.keyLits (n+2) 273 [.int Y a,.int Y b,.int Y c,.int Y d]).map _=_;rw[A];simp[keyBytes,oZ,o,hb,y,hd]
end
section
open Go.RowKit Go.Maps
theorem wC:(Tryz.prog.info? 3).map (fun i=>(i.zero,i.size,i.bytes))=U (U (I O 0),1,8):=by kernel_rfl
theorem lC(n:Int)(w:N):(Instr.makeMap 272 (U (I O n))).run F w=.ok (.map (U w.1.size)) (w.alloc (.map #[] 0)):=by
 simp[Instr.makeMap,run_underlying underlying272,asInt,asIntOf]
structure nV(w:N)(M n:Nat)(b:L8)(i:Nat):Prop where
 out:∃D:DataW Unit,w.ownsMap F 273 (plainElem F 3) M n D∧∀f:L8,f.length=4->D.atKey (.string f) (.lit (.int O 0))=.lit (.int O (Blk.last b f i:Nat))
theorem oW(w:N)(b:L8):nV (w.alloc (.map #[] 0)) w.1.size 0 b 0:=⟨.map [],World.ownsMap_made _ _ _ _,fun _ _=>rfl⟩
theorem nV.keep{w':N}{o n:Nat}{b:L8}(h:nV w o n b i)(hb:w'.1[o]?=w.1[o]?):nV w' o n b i:=by
 obtain⟨y,⟨es,clock,A,D⟩,E⟩:=h.out;exact⟨y,⟨es,clock,hb.trans A,D⟩,E⟩
structure Seen(w wr:N)(b:L8)(i:Nat):Prop where
 low:Below w.1.size w wr
 map:nV wr w.1.size i b i
 row:wr.rowIs (w.1.size+1) 3 b.length (fun j=>I O ((if j<i then Blk.ahead b j else 0:Nat):Int))
 var:wr.rowIs (w.1.size+1+1) 88 1 (fun _=>R (U ⟨w.1.size+1,0,C⟩) b.length b.length)
theorem oB(w:N)(b:L8):Seen w (((w.alloc (.map #[] 0)).alloc (wx (madeCells #[I O 0] b.length) 3)).alloc (wx #[R (U ⟨w.1.size+1,0,C⟩) b.length b.length] 88)) b 0:=by
 have o:(w.alloc (.map #[] 0)).1.size=w.1.size+1:=by simp
 have y:((w.alloc (.map #[] 0)).alloc (wx (madeCells #[I O 0] b.length) 3)).1.size=w.1.size+1+1:=by simp
 refine⟨(gQy.alloc (by rw[o];omega) _).alloc (by rw[y];omega) _,?_,?_,?_⟩
 ·exact(oW w b).keep (((MapKept.heap_alloc _ _).2 _ (by rw[y];omega)).trans ((MapKept.heap_alloc _ _).2 _ (by rw[o];omega)))
 ·have h:=World.rowIs_made (w.alloc (.map #[] 0)) (I O 0) b.length 3;rw[o] at h;exact(h.alloc _).congr (fun j _=>by rw[AF (by omega)];rfl)
 ·have h:=World.rowIs_alloc ((w.alloc (.map #[] 0)).alloc (wx (madeCells #[I O 0] b.length) 3)) #[R (U ⟨w.1.size+1,0,C⟩) b.length b.length] 88 (fun _=>R (U ⟨w.1.size+1,0,C⟩) b.length b.length) (fun i A=>by
   have:i=0:=(by simp at A;omega);subst this;rfl)
  rw[y] at h;exact h
theorem wG(b:L8)(i:Nat)(h:i+4<=b.length):Blk.four b i=[UInt8.ofNat b[i].toNat,UInt8.ofNat b[i+1].toNat,UInt8.ofNat b[i+2].toNat,UInt8.ofNat b[i+3].toNat]:=by
 unfold Blk.four;rw[List.drop_eq_getElem_cons (by omega),List.drop_eq_getElem_cons (by omega),List.drop_eq_getElem_cons (by omega),List.drop_eq_getElem_cons (by omega)];simp only[List.take_succ_cons,List.take_zero,UInt8.ofNat_toNat]
theorem rH(b f:L8)(i:Nat):Blk.last b f (i+1)=if Blk.four b i=f then i+1 else Blk.last b f i:=rfl
theorem Seen.next{W:N}{b:L8}{o:DataW Unit}(h:Seen w wr b i)(S:i+4<=b.length)(D:∀f:L8,f.length=4->o.atKey (.string f) (.lit (.int O 0))=.lit (.int O (Blk.last b f i:Nat)))(E:Maps.IsMap o)(J:W.ownsMap F 273 (plainElem F 3) w.1.size (i+1) (o.put (.string (Blk.four b i)) (.lit (.int O ((i+1:Nat):Int)))))(L:Below w.1.size w W)(M:W.rowIs (w.1.size+1) 3 b.length (fun j=>if j=i then .int O (Blk.ahead b i:Nat) else .int O ((if j<i then Blk.ahead b j else 0:Nat):Int)))(Q:W.rowIs (w.1.size+1+1) 88 1 (fun _=>.slice (U ⟨w.1.size+1,0,C⟩) b.length b.length)):Seen w W b (i+1):=by
 refine⟨L,⟨_,J,fun f K=>?_⟩,M.congr (fun j _=>?_),Q⟩
 ·rw[rH];by_cases e:Blk.four b i=f
  ·subst e;rw[AG rfl,Maps.atKey_put_same E (by trivial)]
  ·rw[AF e,Maps.atKey_put_other (fun y=>e (by injection y with y;exact y.symm)),D f K]
 ·by_cases e:j=i
  ·subst e;rw[AG rfl,AG (by omega)]
  ·rw[AF e];by_cases A:j<i
   ·rw[AG A,AG (by omega)]
   ·rw[AF A,AF (by omega)]
theorem Seen.end{b:L8}(h:Seen w wr b i)(o:¬i+4<=b.length):wr.rowIs (w.1.size+1) 3 b.length (fun j=>I O ((Blk.ahead b j:Nat):Int)):=by
 refine h.row.congr (fun j _=>?_);by_cases e:j<i
 ·rw[AG e]
 ·rw[AF e,show Blk.ahead b j=0 by unfold Blk.ahead;rw[AF (by omega)]]
structure nU(w:N)(G A:Nat)(b:L8):Prop where
 row:w.rowIs A 3 b.length (fun j=>I O ((Blk.ahead b j:Nat):Int))
 var:w.rowIs G 88 1 (fun _=>R (U ⟨A,0,C⟩) b.length b.length)
theorem we(b:L8)(q:OA)(c:Nat)(w:N)(hb:b.length<=2048)(b8:At w q b):
    Calls F 138 #[R q b.length c] w fun e w'=>e=wv (.func (.func 171) #[] #[.pointer (U ⟨w.1.size+1+1,0,C⟩)])∧nU w' (w.1.size+1+1) (w.1.size+1) b∧Below w.1.size w w':=by
  have ev:=lC;have er:∀w:N,(Instr.makeSlice 88 (I O b.length) (I O b.length)).run F w=.ok (R (U ⟨w.1.size,0,C⟩) b.length b.length) (w.alloc (wx (madeCells #[I O 0] b.length) 3)):=run_make_row' (P:=F) 88 3 (I O 0) 8 underlying88 wC rfl O O b.length (by omega) (by omega);have bq:=gQq (oB w b);have cq:=gQq (b8.atB (Nat.le_refl w.1.size));clear b8;go_enter func138,ntmps138;go_wp2_with fail;generalize (((w.alloc (.map #[] 0)).alloc (wx (madeCells #[I O 0] b.length) 3)).alloc (wx #[R (U ⟨w.1.size+1,0,C⟩) b.length b.length] 88))=eg at bq ⊢;go_loopw [16] (fun bk wr=>∃i:Nat,i<=b.length-3∧bk=I O i∧Hid (Seen w wr b i)) (fun bk _=>b.length-(intOf bk).toNat);case atStart=>exact⟨0,Nat.zero_le _,rfl,bq⟩
  case round=>
    obtain⟨i,ep,rfl,o⟩:=hrel;by_cases a3:i+4<=b.length
    · obtain⟨bb,J,rfl,dj,bT⟩:=aP cq.out.at_ (by omega);have ak:cT wr bb J b:=fun j ds=>by
        rw[o.out.low.cell (p:=⟨bb,J+j,C⟩) dj];exact bT j ds
      have a7:=ak i (by omega);have a8:=ak (i+1) (by omega);have a9:=ak (i+2) (by omega);have d3:=ak (i+3) (by omega);have cb:b[i].toNat<256:=b[i].toNat_lt;have cc:b[i+1].toNat<256:=b[i+1].toNat_lt;have cd:b[i+2].toNat<256:=b[i+2].toNat_lt;have ci:b[i+3].toNat<256:=b[i+3].toNat_lt;have ab:=wG b i a3;generalize b[i].toNat=K at a7 cb ab;generalize b[i+1].toNat=x1 at a8 cc ab;generalize b[i+2].toNat=M at a9 cd ab;generalize b[i+3].toNat=Q at d3 ci ab;clear bT ak;have p1:(0:Int)<=(i:Int)+1:=(by omega);have d4:(i:Int)+1<(b.length:Int):=(by omega);have p2:(0:Int)<=(i:Int)+2:=(by omega);have d5:(i:Int)+2<(b.length:Int):=(by omega);have p3:(0:Int)<=(i:Int)+3:=(by omega);have d6:(i:Int)+3<(b.length:Int):=(by omega);have d7:((i:Int)+2).toNat=i+2:=(by omega);have d8:((i:Int)+3).toNat=i+3:=(by omega);have ct:∀y,(wr.alloc y).cell? ⟨bb,J+i,C⟩=U (I Y K):=fun y=>by rw[((Below.refl wr.1.size wr).alloc gQx y).cell (p:=⟨bb,J+i,C⟩) (by have:=o.out.low.size;show bb<_;omega)];exact a7
      have cu:∀y,(wr.alloc y).cell? ⟨bb,J+(i+1),C⟩=U (I Y x1):=fun y=>by rw[((Below.refl wr.1.size wr).alloc gQx y).cell (p:=⟨bb,J+(i+1),C⟩) (by have:=o.out.low.size;show bb<_;omega)];exact a8
      have cv:∀y,(wr.alloc y).cell? ⟨bb,J+(i+2),C⟩=U (I Y M):=fun y=>by rw[((Below.refl wr.1.size wr).alloc gQx y).cell (p:=⟨bb,J+(i+2),C⟩) (by have:=o.out.low.size;show bb<_;omega)];exact a9
      have cw:∀y,(wr.alloc y).cell? ⟨bb,J+(i+3),C⟩=U (I Y Q):=fun y=>by rw[((Below.refl wr.1.size wr).alloc gQx y).cell (p:=⟨bb,J+(i+3),C⟩) (by have:=o.out.low.size;show bb<_;omega)];exact d3
      have ew:i<b.length:=(by omega);have d0:i+1<b.length:=(by omega);have d1:i+2<b.length:=(by omega);have d2:i+3<b.length:=(by omega);have w1:IntKind.i64.wrap ((i:Int)+1)=((i+1:Nat):Int):=(by rw[IntKind.wrap_i64];omega);have d9:IntKind.i64.wrap ((i:Int)+2)=((i+2:Nat):Int):=(by rw[IntKind.wrap_i64];omega);have ea:IntKind.i64.wrap ((i:Int)+3)=((i+3:Nat):Int):=(by rw[IntKind.wrap_i64];omega);obtain⟨D,b5,bc⟩:=o.out.map.out;have a0:=wj K x1 M Q cb cc cd ci;rw[<-ab] at a0;have dr:(Blk.four b i).length=4:=(by rw[ab];rfl);have bO:Blk.last b (Blk.four b i) i=Blk.ahead b i:=(by unfold Blk.ahead;rw[AG a3]);have a2:=bc _ dr;rw[bO] at a2;have du:=o.out.row.lt;have dv:=o.out.var.lt;have df:=Blk.ahead_le b i;obtain⟨L,be⟩:∃L,L=Blk.ahead b i:=⟨_,rfl⟩;rw[<-be] at a2 df;obtain⟨A,S⟩:∃A,A=(wr.alloc (wx #[I Y K,I Y x1,I Y M,I Y Q] 273)).drew:=⟨_,rfl⟩;have a5:A.rowIs (w.1.size+1) 3 b.length (fun j=>I O ((if j<i then Blk.ahead b j else 0:Nat):Int)):=(by rw[S];exact(o.out.row.alloc _).drew);have bj:A.rowIs (w.1.size+1+1) 88 1 (fun _=>R (U ⟨w.1.size+1,0,C⟩) b.length b.length):=(by rw[S];exact(o.out.var.alloc _).drew);have ah:A.1[wr.1.size]?=U (wx #[I Y K,I Y x1,I Y M,I Y Q] 273):=(by rw[S];exact(MapKept.heap_alloc wr _).1);have a4:A.ownsMap F 273 (plainElem F 3) w.1.size i D:=(by rw[S];exact(b5.alloc _).drew);have b3:Below w.1.size w A:=by
        rw[S];have:=o.out.low.alloc o.out.low.size (wx #[I Y K,I Y x1,I Y M,I Y Q] 273);exact⟨this.os,this.tape,this.output,this.size,this.block⟩
      obtain⟨E,V⟩:∃E,E=(A.setCell ⟨w.1.size+1,i,C⟩ (I O L)).drew:=⟨_,rfl⟩;have bi:=(a5.set i (I O L)).drew;rw[<-V] at bi;have b9:E.rowIs (w.1.size+1+1) 88 1 (fun _=>R (U ⟨w.1.size+1,0,C⟩) b.length b.length):=(by rw[V];exact(bj.setOther (by show _≠w.1.size+1;omega) _).drew);have aw:E.1[wr.1.size]?=U (wx #[I Y K,I Y x1,I Y M,I Y Q] 273):=by
        rw[V];show(A.setCell _ _).1[wr.1.size]?=_;rw[Below.heap_setCell _ _ _ _ (by show _≠w.1.size+1;omega)];exact ah
      have b6:E.ownsMap F 273 (plainElem F 3) w.1.size i D:=by
        obtain⟨es,clock,bv,bN⟩:=a4;refine⟨es,clock,?_,bN⟩;rw[V];show(A.setCell _ _).1[w.1.size]?=_;rw[Below.heap_setCell _ _ _ _ (by show _≠w.1.size+1;omega)];exact bv
      have b4:Below w.1.size w E:=by
        rw[V];have hd:=b3.setCell (p:=⟨w.1.size+1,i,C⟩) (by show w.1.size<=w.1.size+1;omega) (I O L);exact⟨hd.os,hd.tape,hd.output,hd.size,hd.block⟩
      have cx:=bj.cell (i:=0) (by omega);have f1:=a5.cell (i:=i) (by omega);have cy:=a5.frozen i;have c5:A.cell? ⟨wr.1.size,0,C⟩=U (I Y K):=(by simp[World.cell?,ah]);have c6:A.cell? ⟨wr.1.size,1,C⟩=U (I Y x1):=(by simp[World.cell?,ah]);have c7:A.cell? ⟨wr.1.size,2,C⟩=U (I Y M):=(by simp[World.cell?,ah]);have c8:A.cell? ⟨wr.1.size,3,C⟩=U (I Y Q):=(by simp[World.cell?,ah]);have em:E.cell? ⟨wr.1.size,0,C⟩=U (I Y K):=(by simp[World.cell?,aw]);have bv:E.cell? ⟨wr.1.size,1,C⟩=U (I Y x1):=(by simp[World.cell?,aw]);have bN:E.cell? ⟨wr.1.size,2,C⟩=U (I Y M):=(by simp[World.cell?,aw]);have en:E.cell? ⟨wr.1.size,3,C⟩=U (I Y Q):=(by simp[World.cell?,aw]);obtain⟨eb,b1,X,-⟩:=a4.lookup_int yc underlying272 underlying3 (pU _) a0;obtain⟨ec,b2,Z,-⟩:=(a4.drew).lookup_int yc underlying272 underlying3 (pU _) a0;rw[a2] at X Z;injection X with X;injection X with _ X;injection Z with Z;injection Z with _ Z;rw[<-X] at b1;rw[<-Z] at b2;have cr:=gQq S;have cs:=gQq V;have bl:=gQq b4;have bp:=gQq bi;have bs:=gQq b9;have bn:=gQq b6;have co:=gQq be;have cn:=gQq a0;have cj:=gQq bc;clear S V a5 bj ah a4 b3 bi b9 aw b6 b4 b5 bc a0 a2 bO be ab X Z du dv;go_wp2_with fail
      go_region
      go_wp2_with fail;rw[<-cr.out];clear ct cu cv cw a7 a8 a9 d3 p1 p2 p3 d4 d5 d6 w1 d9 ea d7 d8 d0 d1 d2
      go_region
      rw[<-cs.out];have ez:IntKind.i64.wrap ((i:Int)+1)=((i+1:Nat):Int):=(by rw[IntKind.wrap_i64];omega);clear cx f1 cy c5 c6 c7 c8 b1 b2;have c9:Maps.IsMap D:=bn.out.isMap
      go_wp2_with (first
        | (at_mapUpdate
           refine wpList_mapUpdate_own _ rfl _ _ _ 272 rfl 273 3 yc underlying272 _ w.1.size i D rfl bn.out (by unfold maxLen;omega) _ _ _ rfl rfl cn.out _ [] (plainElem_int underlying3 (WalkArith.wf_i64 (by omega))) ?_;intro el b7 bX;have cp:=gQq b7;have a6:=gQq bX;clear b7 bX)
        |fail)
      go_roundw;case rel=>
        refine⟨i+1,by omega,by go_num,?_⟩;refine o.out.next a3 cj.out c9 ?_ ?_ ?_ ?_
        · exact cp.out
        · exact bl.out.grown a6.out (by have:=bl.out.size;omega) (fun k b0=>by injection b0 with b0;omega)
        · rw[<-co.out];exact bp.out.of_block (a6.out.block _ bp.out.lt (fun aj=>by injection aj with aj;omega))
        · exact bs.out.of_block (a6.out.block _ bs.out.lt (fun aj=>by injection aj with aj;omega))
      case measure=>simp[intOf];omega
    · have eq:¬(i:Int)<(b.length:Int)-3:=(by omega);have ck:=gQq (o.out.end a3);go_wp2;go_ret;exact⟨rfl,⟨ck.out,o.out.var⟩,o.out.low⟩
end
end Go.Proofs.YtngmnfdaedlodaaGreatDoor
