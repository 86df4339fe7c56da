import Derived.Test.YtbahfgdbjgkklaaGreatDoorB26
set_option maxRecDepth 100000
set_option maxHeartbeats 8000000
namespace Go.Proofs.YtbahfgdbjgkklaaGreatDoor
variable{H e g k1 lim m n0 n1 n2:Nat}{w w2 wr:World}{v:Value}{o:Obj}{es:List Ent}
section
open Go.RowKit
def fP(w:World)(B:Nat)(v:Value)(l:List Int):Prop:=w.ownsRow B 2 1 v l.length (l.map fun n=>Value.int .i64 n)
theorem uT(w:World)(B:Nat):fP w B (.slice none 0 0) []:=⟨rfl,.inl ⟨rfl,rfl⟩⟩
section
variable {w w':World} {B:Nat} {v:Value} {l:List Int}
theorem fP.lt(h:fP w B v l):∀k,v.ownBlock=some k->B<=k∧k<w.1.size:=World.ownsRow.lt h
theorem fP.aside{F:Nat->Prop}(h:fP w B v l)(J:Aside F w w')(K:∀k,v.ownBlock=some k->¬F k):fP w' B v l:=by
 refine⟨h.1,?_⟩;rcases h.2 with D | ⟨g,cap,z,rfl,E,y,I⟩
 ·exact .inl D
 ·refine .inr ⟨g,cap,z,rfl,E,?_,I⟩;rw[J.block g (Array.getElem?_eq_some_iff.1 y).1 (K g rfl)];exact y
theorem fP.on(h:fP w B v l)(hb:Below w.1.size w w'):fP w' B v l:=h.aside (al hb (fun _=>False)) (fun _ _ y=>y)
theorem fP.ints(h:fP w B v l):∃p c,v=.slice p l.length c∧l.length<=c∧(l=[]∨∃g,p=some ⟨g,0,none⟩∧B<=g∧Ints w g l):=by
 rcases h.2 with ⟨rfl,z⟩ | ⟨g,cap,M,rfl,E,y,I,O,Q,J⟩
 ·have D:=List.eq_nil_of_length_eq_zero z;subst D;exact⟨none,0,rfl,gQx,.inl rfl⟩
 ·refine⟨_,cap,rfl,I,.inr ⟨g,rfl,E,(Array.getElem?_eq_some_iff.1 y).1,fun j L=>?_⟩⟩;have K:(l.map fun n=>Value.int .i64 n)[j]?=some (.int .i64 l[j]):=by simp[L]
  rw[<-K,<-J,List.getElem?_take_of_lt (by omega)];simp[World.cell?,y]
end
theorem zA:(Tryz.prog.info? 2).map (fun i=>(i.zero,i.size,i.bytes))=some (some (.int .i64 0),1,8):=by kernel_rfl
theorem tw{B:Nat}{l:List Int}{n:Int}{ad:Nat}(X:fP w B v l)(O:w.1[ad]?=some (.cells #[.int .i64 n] 2 (0,0)))(V:(l.length+1)*8<=140737488355328)(K:B<=w.1.size)(L:w.1.size=H){D:Array Oper}{rest:List Oper}{o:Oper}{a:Act}{z:Exit->Act->World->Prop}{y x:Operand}(S:o.guard=none)(W:o.op=Op.call { callee:=Callee.builtin Builtin.append,args:=#[y,x],argTypes:=#[113,113] })(Y:a.eval y=v)(ab:a.eval x=.slice (some ⟨ad,0,none⟩) 1 1)(M:∀g cap w',fP w' B (.slice (some ⟨g,0,none⟩) (l.length+1) cap) (l++[n])->w.grownBy w' v.ownBlock->(v.ownBlock=some g∨g=H)->wpList Tryz.prog D z rest (a.put o.dst (.slice (some ⟨g,0,none⟩) (l.length+1) cap)) w'):
  wpList Tryz.prog D z (o::rest) a w:=by
 obtain⟨i,U,ah,Z,Q⟩:=info_parts zA
 refine wpList_append_lies w S y x 113 W B 2 i (.int .i64 0) 1 8 Tryz.underlying113 U ah Z Q rfl (by decide) v l.length (l.map fun n=>Value.int .i64 n) Y X ⟨ad,0,none⟩ 1 1 _ ab (by simp)
  (World.news_of_block O) (by simp[Value.oneCell']) (by decide) (by unfold maxLen;omega) V K H L fun g cap w' E I J _=>M g cap w' ?_ I J
 unfold fP;rw[List.length_append,List.map_append];simpa using E
theorem oa{l:List Int}(hb:Below w.1.size w wr)(D:fP wr w.1.size v l)(y:(wr.alloc o).grownBy w2 v.ownBlock):Below w.1.size w w2:=by
 refine hb.trans (Below.trans (((Below.refl _ wr).alloc gQx o).mono hb.size) ?_);refine⟨y.os,y.tape,y.output,y.size,fun b E=>y.block b (by have:=hb.size;simp;omega) (fun z=>?_)⟩;have:=(D.lt b (by first | exact z | exact z.symm)).1;omega
theorem sI(l:L8)(a:Nat)(h:(Leb.get (l.drop a)).err≠0):eF l a=.tuple #[.int .u64 0,.int .i64 0,.int .i64 ((Leb.get (l.drop a)).err:Nat)]:=by
 have hb:=Leb.getF_bad 10 true (l.drop a) h;refine cU l a _ h ?_;obtain⟨D,E⟩:=hb;have y:(Leb.get (l.drop a)).n=0:=D;have z:(Leb.get (l.drop a)).k=0:=E;generalize Leb.get (l.drop a)=g at y z;cases g
 simp_all
theorem uY(l:L8)(a:Nat)(h:(Leb.get (l.drop a)).err=0):eF l a=.tuple #[.int .u64 ((Leb.get (l.drop a)).n:Nat),.int .i64 ((a+(Leb.get (l.drop a)).k:Nat):Int),.int .i64 0]:=by
 have:=gZ l a (Leb.get (l.drop a)).n (Leb.get (l.drop a)).k (by
  generalize Leb.get (l.drop a)=g at h;cases g
  simp_all)
 rw[this,Int.natCast_add]
def shN(ns:List Nat)(k:Nat)(r:Except Nat (List Nat×Nat)):Except Nat (List Nat×Nat):=match r with
 |.error e=>.error e
 |.ok (ms,j)=>.ok (ns++ms,k+j)
theorem wG(r:Except Nat (List Nat×Nat)):shN [] 0 r=r:=by
 cases r with
 |error e=>rfl
 |ok x=>obtain⟨y,j⟩:=x;simp[shN]
theorem qU{r:List Nat}{l:L8}(y:List Nat)(k:Nat)(h:Fr.nb lim l=.error e):shN y k (Fr.nbs (lim::r) l)=.error e:=by rw[Fr.nbs,h];rfl
theorem uz{r:List Nat}{l:L8}{n:Nat}(y:List Nat)(k:Nat)(h:Fr.nb lim l=.ok (n,k1)):shN y k (Fr.nbs (lim::r) l)=shN (y++[n]) (k+k1) (Fr.nbs r (l.drop k1)):=by
 rw[Fr.nbs,h];dsimp only;cases Fr.nbs r (l.drop k1) with
 |error e=>rfl
 |ok x=>obtain⟨z,j⟩:=x;simp[shN,Nat.add_assoc]
def toI(l:List Nat):List Int:=l.map Int.ofNat
theorem jo(l:List Nat):(toI l).length=l.length:=by simp[toI]
theorem wD(l:List Nat)(j:Nat)(h:j<l.length):(toI l)[j]'(by rw[jo];exact h)=(l[j]:Int):=by simp[toI]
theorem tE(l:List Nat)(n:Nat):toI (l++[n])=toI l++[(n:Int)]:=by simp[toI]
def zO(w:World)(a:Nat)(r:Except Nat (List Nat×Nat))(e:Ending)(w':World):Prop :=
 (∃er,r=.error er∧e=.returned (.tuple #[.slice none 0 0,.int .i64 0,.bool false])∧Below w.1.size w w') ∨
 (∃ns k q cap,r=.ok (ns,k)∧e=.returned (.tuple #[.slice q ns.length cap,.int .i64 ((a+k:Nat):Int),.bool true])∧fP w' w.1.size (.slice q ns.length cap) (toI ns)∧Below w.1.size w w')
theorem jq(p:OA)(c:Nat)(l:L8)(bX:l.length<=140737488351232)(a Y:Nat)(bs:a<=l.length)(y:List Nat)(cc:y.length<=10)(bc:∀x∈y,x<=1099511627776)(w:World)(h:At w p l)(a8:Ints w Y (toI y)):
    Calls Tryz.prog 48 #[.slice p l.length c,.int .i64 a,.slice (some ⟨Y,0,none⟩) y.length y.length] w (zO w a (Fr.nbs y (l.drop a))):=by
  have bi:=gQq h;have a5:=gQq a8;have bk:=gQq bc;obtain⟨R,a0⟩:∃R,R=Fr.nbs y (l.drop a):=⟨_,rfl⟩;rw[<-a0];have bq:=gQq a0;clear h a8 bc a0;go_enter Tryz.func48,Tryz.ntmps48;go_wp2;go_loopw [1,9,10] (fun b4 b5 a4 wr=>∃(i k m:Nat) (D:List Nat),i<=y.length∧a4=.int .i64 i∧b4=.int .i64 ((m:Nat):Int)∧m<=l.length∧D.length=i∧Hid (m=a+k∧R=shN D k (Fr.nbs (y.drop i) (l.drop (a+k)))∧fP wr w.1.size b5 (toI D)∧Below w.1.size w wr)) (fun _ _ a4 _=>y.length-(intOf a4).toNat);case atStart=>exact⟨0,0,a,[],by omega,rfl,rfl,bs,rfl,rfl,by rw[wG,bq.out];rfl,uT _ _,gQz⟩
  case round=>
    obtain⟨i,k,m,D,b8,rfl,rfl,cb,W,z⟩:=hrel;have b7:=z.out.2.2.2.size;have a6:=gQq W;by_cases Z:i<y.length
    · have ca:(i:Int)<(y.length:Int):=(by omega);have bN:wr.cell? ⟨Y,i,none⟩=some (.int .i64 (y[i]:Nat)):=by
        rw[z.out.2.2.2.cell (p:=⟨Y,i,none⟩) a5.out.1,a5.out.2 i (by rw[jo];exact Z),wD y i Z]
      have b0:=bk.out y[i] (List.getElem_mem Z);have J:=jV p c l (m:Int) bX wr (bi.out.on z.out.2.2.2);have X:Hid (y.drop i=y[i]::y.drop (i+1)):=List.drop_eq_getElem_cons Z;have Q:Hid (R=shN D k (Fr.nbs (y[i]::y.drop (i+1)) (l.drop m))):=by
        show _=_;rw[z.out.2.1,X.out,z.out.1]
      have E:Hid (Fr.nb y[i] (l.drop m)=match Sch.num (l.drop m) with | .error _=>.error 5 | .ok (n,k)=>if n<y[i] then .ok (n,k) else .error 5):=rfl;generalize y[i]=lim at bN b0 Q E;have b9:(lim:Int)<=1099511627776:=(by omega);by_cases K:(Leb.get (l.drop m)).err=0
      · rw[uY l m K] at J;have bO:=Leb.get_ok (l.drop m) K;have S:Hid (Sch.num (l.drop m)=.ok ((Leb.get (l.drop m)).n,(Leb.get (l.drop m)).k)):=if_pos K;obtain⟨br,-,a7,-⟩:=bO;rw[List.length_drop] at a7;obtain⟨n,a3⟩:∃n,n=(Leb.get (l.drop m)).n:=⟨_,rfl⟩;obtain⟨k1,a1⟩:∃k1,k1=(Leb.get (l.drop m)).k:=⟨_,rfl⟩;rw[<-a3,<-a1] at J S;rw[<-a3] at br;rw[<-a1] at a7;rw[S.out] at E;have I:=gQq J;clear K a3 a1 J S;obtain⟨ah,a2⟩:∃ah,ah=m+k1:=⟨_,rfl⟩;rw[<-a2] at I;have b1:ah<=l.length:=(by omega);have bn:=gQq a2;clear a2;by_cases ab:n<lim
        · have V:Hid (Fr.nb lim (l.drop m)=.ok (n,k1)):=E.out.trans (if_pos ab);have O:Hid (R=shN (D++[n]) (k+k1) (Fr.nbs (y.drop (i+1)) (l.drop (a+(k+k1))))):=by
            show _=_;rw[Q.out,uz D k V.out,List.drop_drop,z.out.1,Nat.add_assoc]
          have cd:(n:Int)<(lim:Int):=(by omega);have b2:¬(lim:Int)<=(n:Int):=(by omega);have U:=gQq z.out.2.2.1;have M:=gQq z.out.2.2.2;have aj:=gQq z.out.1;clear E V Q X ab z W;go_wp2_with fail;refine I.out.mono ?_;rintro e w1 ⟨rfl,L⟩;rw[L];clear L w1 I
          go_wp2_with (first|(at_builtin;refine tw (U.out.on ((Below.refl _ wr).alloc gQx _)) (am wr _) (by rw[jo,a6.out];omega) (by simp;omega) rfl rfl rfl rfl rfl ?_;intro g cap w2 be bb b3;have bp:=gQq be;have bj:=gQq (oa M.out U.out bb);clear be bb b3)|fail)
          go_roundw;case rel=>
            refine⟨i+1,k+k1,ah,D++[n],by omega,by go_num,rfl,b1,by rw[List.length_append,a6.out];rfl,by rw[bn.out,aj.out,Nat.add_assoc],O.out,?_,bj.out⟩;rw[tE];exact bp.out
          case measure=>simp[intOf];omega
        · have V:Hid (Fr.nb lim (l.drop m)=.error 5):=E.out.trans (if_neg ab);have O:Hid (R=.error 5):=by
            show _=_;rw[Q.out,qU D k V.out]
          have b2:(lim:Int)<=(n:Int):=(by omega);have M:=gQq z.out.2.2.2;clear E V Q X ab z W;go_wp2_with fail;refine I.out.mono ?_;rintro e w1 ⟨rfl,L⟩;rw[L];clear L w1 I;go_wp2
          go_ret3
          exact .inl ⟨_,O.out,rfl,M.out⟩
      · rw[sI l m K] at J;have S:Hid (Sch.num (l.drop m)=.error (Leb.get (l.drop m)).err):=if_neg K;rw[S.out] at E;have O:Hid (R=.error 5):=by
          show _=_;rw[Q.out,qU D k E.out]
        obtain⟨ak,a9⟩:∃ak,ak=(Leb.get (l.drop m)).err:=⟨_,rfl⟩;rw[<-a9] at J K;have I:=gQq J;have b6:((ak:Int) != 0)=true:=aQ (by omega);have M:=gQq z.out.2.2.2;clear E S Q X z W J a9 K;go_wp2_with fail;refine I.out.mono ?_;rintro e w1 ⟨rfl,L⟩;rw[L];clear L w1 I;go_wp2
        go_ret3
        exact .inl ⟨_,O.out,rfl,M.out⟩
    · have bT:i=y.length:=(by omega);subst bT;have O:Hid (R=.ok (D,k)):=by
        show _=_;rw[z.out.2.1,List.drop_length,Fr.nbs];simp[shN]
      have U:=gQq z.out.2.2.1;have M:=gQq z.out.2.2.2;have aj:=gQq z.out.1;obtain⟨q,cap,rfl,-,-⟩:=U.out.ints;rw[jo] at U ⊢;clear z W;go_wp2
      go_ret3
      rw[aj.out];exact .inr ⟨D,k,q,cap,O.out,rfl,U.out,M.out⟩
end
section
open Go.RowKit
def shX(es:List Ent)(k:Nat)(r:Except Nat (List Ent×Nat)):Except Nat (List Ent×Nat):=match r with
 |.error e=>.error e
 |.ok (fs,j)=>.ok (es++fs,k+j)
theorem wF(r:Except Nat (List Ent×Nat)):shX [] 0 r=r:=by
 cases r with
 |error e=>rfl
 |ok x=>obtain⟨y,j⟩:=x;simp[shX]
theorem wM{l:L8}(es:List Ent)(k:Nat)(h:Fr.nbs [1099511627776,1099511627776,1099511627776] l=.error e):shX es k (Fr.rdE (m+1) l)=.error e:=by rw[Fr.rdE,h];rfl
theorem tV{a b c:Nat}{l:L8}(es:List Ent)(k:Nat)(h:Fr.nbs [1099511627776,1099511627776,1099511627776] l=.ok ([a,b,c],k1)):shX es k (Fr.rdE (m+1) l)=shX (es++[⟨(a:Nat),(b:Nat),(c:Nat)⟩]) (k+k1) (Fr.rdE m (l.drop k1)):=by
 rw[Fr.rdE,h];dsimp only;cases Fr.rdE m (l.drop k1) with
 |error e=>rfl
 |ok x=>obtain⟨y,j⟩:=x;simp[shX,Nat.add_assoc]
structure lf(w2 wr:World)(n0 n1 n2:Nat)(v:Value)(es:List Ent):Prop where
 bX:wr.1[w2.1.size]?=some (.cells #[.int .i64 n0,.int .i64 n1,.int .i64 n2,v] 65 (0,0))
 own:dO wr (w2.1.size+1) v es
 keep:Below w2.1.size w2 wr
theorem lf.size(h:lf w2 wr n0 n1 n2 v es):w2.1.size<wr.1.size:=au h.bX
theorem lf.on{w':World}(h:lf w2 wr n0 n1 n2 v es)(hb:Below wr.1.size wr w'):lf w2 w' n0 n1 n2 v es :=
 ⟨(hb.block _ h.size).trans h.bX,h.own.on hb,h.keep.trans (hb.mono (Nat.le_of_lt h.size))⟩
theorem lf.more{y w4:World}{cap:Nat}{x:Ent}(h:lf w2 y n0 n1 n2 v es)(K:dO w4 (w2.1.size+1) (.slice (some ⟨g,0,none⟩) (es.length+1) cap) (es++[x]))(z:(y.alloc o).grownBy w4 v.ownBlock):
  w4.1[w2.1.size]?=some (.cells #[.int .i64 n0,.int .i64 n1,.int .i64 n2,v] 65 (0,0))∧lf w2 (w4.setCell ⟨w2.1.size,3,none⟩ (.slice (some ⟨g,0,none⟩) (es.length+1) cap)) n0 n1 n2 (.slice (some ⟨g,0,none⟩) (es.length+1) cap) (es++[x]):=by
 have S:=h.size;have U:(y.alloc o).1.size=y.1.size+1:=by simp
 have Q:=z.size;have J:∀k,k<=w2.1.size->w4.1[k]?=y.1[k]?:=fun k D=>by
  rw[z.block k (by omega) (fun M=>by have:=(h.own.lt k M.symm).1;omega)];exact aG _ _ (by omega)
 have E:=(J _ gQx).trans h.bX;have I:Aside (fun i=>i=w2.1.size) w4 (w4.setCell ⟨w2.1.size,3,none⟩ (.slice (some ⟨g,0,none⟩) (es.length+1) cap)):=ag _ _ _ _;refine⟨E,?_,?_,?_⟩
 ·exact ai E 3 (.slice (some ⟨g,0,none⟩) (es.length+1) cap)
 ·exact K.aside I (fun k D O=>by have:=(K.lt k D).1;omega)
 ·have L:Below w2.1.size y w4:=by
   refine⟨?_,?_,?_,by omega,fun k D=>J k (by omega)⟩
   ·exact z.os
   ·exact z.tape
   ·exact z.output
  exact(h.keep.trans L).trans (I.below (by omega) (fun k D=>by omega))
theorem dx{T:TypeId}{c0 c1 c2 c3 c4 z D E I J y:Value}(h:w.1[g]?=some (.cells #[c0,c1,c2,c3,c4,z,D,E,I,J,y] T (0,0))):(w.cell? ⟨g,0,none⟩=some c0∧w.frozen? ⟨g,0,none⟩=false)∧(w.cell? ⟨g,1,none⟩=some c1∧w.frozen? ⟨g,1,none⟩=false)∧(w.cell? ⟨g,2,none⟩=some c2∧w.frozen? ⟨g,2,none⟩=false)∧(w.cell? ⟨g,3,none⟩=some c3∧w.frozen? ⟨g,3,none⟩=false)∧(w.cell? ⟨g,4,none⟩=some c4∧w.frozen? ⟨g,4,none⟩=false)∧(w.cell? ⟨g,5,none⟩=some z∧w.frozen? ⟨g,5,none⟩=false)∧(w.cell? ⟨g,6,none⟩=some D∧w.frozen? ⟨g,6,none⟩=false)∧(w.cell? ⟨g,7,none⟩=some E∧w.frozen? ⟨g,7,none⟩=false)∧(w.cell? ⟨g,8,none⟩=some I∧w.frozen? ⟨g,8,none⟩=false)∧(w.cell? ⟨g,9,none⟩=some J∧w.frozen? ⟨g,9,none⟩=false)∧(w.cell? ⟨g,10,none⟩=some y∧w.frozen? ⟨g,10,none⟩=false) :=
 ⟨⟨aa h 0,ac h 0⟩,⟨aa h 1,ac h 1⟩,⟨aa h 2,ac h 2⟩,⟨aa h 3,ac h 3⟩,⟨aa h 4,ac h 4⟩,⟨aa h 5,ac h 5⟩,⟨aa h 6,ac h 6⟩,⟨aa h 7,ac h 7⟩,⟨aa h 8,ac h 8⟩,⟨aa h 9,ac h 9⟩,⟨aa h 10,ac h 10⟩⟩
theorem gX(y:w.1.size=H){l:List Int}{C:AV}(h:C=(l.map fun n=>Value.int .i64 n).toArray):Ints (w.alloc (.cells C 2)) H l:=by
 subst y;exact gW w l h
theorem uA{l:L8}(h:Fr.nb lim l=.error e):e=5:=by
 unfold Fr.nb at h;split at h
 ·injection h with h;omega
 ·split at h
  ·cases h
  ·injection h with h;omega
theorem jv:∀(y:List Nat) {l:L8} {e:Nat},Fr.nbs y l=.error e->e=5
 | [],l,e,h=>by rw[Fr.nbs] at h;cases h
 |a::y,l,e,h=>by
  rw[Fr.nbs] at h;split at h
  ·next e' he=>injection h with h;rw[<-h];exact uA he
  ·split at h
   ·next e' he=>injection h with h;rw[<-h];exact jv y he
   ·cases h
theorem pJ(p:OA)(c:Nat)(l:L8)(ew:l.length<=2200)(d2:1<=l.length)(w:World)(h:At w p l):
    Calls Tryz.prog 50 #[.slice p l.length c] w (lg w (Fr.rdI (l.drop 1))):=by
  obtain⟨w0,ah⟩:∃w0,w0=w.alloc (.cells #[.int .i64 0,.int .i64 0,.slice none 0 0,.int .i64 0,.int .i64 0,.int .i64 0,.slice none 0 0,.int .i64 0,.int .i64 0,.int .i64 0,.slice none 0 0] 67):=⟨_,rfl⟩;have ck:w0.1.size=w.1.size+1:=by rw[ah];simp
  have b3:Hid (Below w.1.size w w0):=by rw[ah];exact gQy
  have cb:w0.1[w.1.size]?=some (.cells #[.int .i64 0,.int .i64 0,.slice none 0 0,.int .i64 0,.int .i64 0,.int .i64 0,.slice none 0 0,.int .i64 0,.int .i64 0,.int .i64 0,.slice none 0 0] 67 (0,0)):=by rw[ah];exact am w _
  obtain⟨w1,aj⟩:∃w1,w1=w0.alloc (.cells #[.int .i64 1099511627776,.int .i64 1099511627776,.int .i64 1099511627776,.int .i64 65] 2):=⟨_,rfl⟩;have b4:Hid (Below w0.1.size w0 w1):=by rw[aj];exact gQy
  have W:Hid (Below w.1.size w w1):=b3.out.trans (b4.out.mono b3.out.size);have e0:w1.1.size=w.1.size+2:=by rw[aj];simp[ck]
  have b6:Hid (Ints w1 (w.1.size+1) (toI [1099511627776,1099511627776,1099511627776,65])):=by rw[aj];exact gX ck rfl
  have b7:=gQq ((b4.out.block _ (by omega)).trans cb);have dp:Hid ((w.alloc (.cells #[.int .i64 0,.int .i64 0,.slice none 0 0,.int .i64 0,.int .i64 0,.int .i64 0,.slice none 0 0,.int .i64 0,.int .i64 0,.int .i64 0,.slice none 0 0] 67)).alloc (.cells #[.int .i64 1099511627776,.int .i64 1099511627776,.int .i64 1099511627776,.int .i64 65] 2)=w1):=by rw[aj,ah];exact rfl
  have b2:=gQq h;have I:=gQq (jq p c l (by omega) 1 (w.1.size+1) d2 [1099511627776,1099511627776,1099511627776,65] (by simp) (by simp) w1 (b2.out.on W.out) b6.out);obtain⟨R,bn⟩:∃R,R=Fr.rdI (l.drop 1):=⟨_,rfl⟩;rw[<-bn];have a3:=gQq bn;clear ah aj cb b6 h bn;go_enter Tryz.func50,Tryz.ntmps50;go_wp2_with fail;rw[dp.out];refine I.out.mono ?_;rintro e w2 (⟨dv,y,rfl,L⟩ | ⟨ak,k,q,cap,y,rfl,ci,L⟩)
  · have a4:Hid (R=.error 5):=by
      show _=_;rw[a3.out,Fr.rdI,y,<-jv _ y]
    have X:=gQq (W.out.trans (L.mono W.out.size));have bk:=(L.block _ (by omega)).trans b7.out;obtain⟨⟨cy,co⟩,⟨c5,cp⟩,⟨c7,cr⟩,⟨c8,a9⟩,⟨c9,b0⟩,⟨da,cs⟩,⟨db,ct⟩,⟨dc,cu⟩,⟨dd,cv⟩,⟨de,cw⟩,⟨c6,cq⟩⟩:=dx bk;have a1:=gQq bk;have bT:=X.out.size;clear L I a3 y bk;go_wp2;refine bodyPost_ret (aw rfl _ _ w.1.size _ _ _ _ rfl (az a1.out _ _ _ _ _ _ _ _ _ _ _) Tryz.underlying67 rfl (by kernel_rfl)) rfl ?_;rw[a4.out];exact⟨rfl,X.out.trans ((aA w2 w.1.size _ _ _ _ _ _ _ _ _ _ _).below bT (fun k ab=>by omega))⟩
  · have O:=Fr.nbs_ok _ _ _ _ y;have cg:ak.length=4:=O.1;match ak,cg with
    | [n0,n1,n2,n3],_=>
    have en:n3<65:=O.2.1 3 (by simp) (by simp);have d7:1+k<=l.length:=by
      obtain⟨-,-,r,be,bi⟩:=O;have:=congrArg List.length be;rw[List.length_append,List.length_drop,<-bi] at this;omega
    have X:=gQq (W.out.trans (L.mono W.out.size));have a1:=gQq ((L.block _ (by omega)).trans b7.out);obtain⟨ei,dr,bO,-,bN⟩:=ci.ints;rcases bN with bs | ⟨g,d3,ep,S⟩
    · simp[toI] at bs
    injection bO with hq1 hq2 hq3;subst hq1;subst d3;have ee:w2.cell? ⟨g,0,none⟩=some (.int .i64 (n0:Nat)):=S.2 0 (by simp[toI]);have ef:w2.cell? ⟨g,1,none⟩=some (.int .i64 (n1:Nat)):=S.2 1 (by simp[toI]);have eg:w2.cell? ⟨g,2,none⟩=some (.int .i64 (n2:Nat)):=S.2 2 (by simp[toI]);have cn:w2.cell? ⟨g,3,none⟩=some (.int .i64 (n3:Nat)):=S.2 3 (by simp[toI]);have di:=gQq S;have bT:=X.out.size;clear L I ci S O cg hq3;go_wp2_with fail;go_region_held3 (fun w'=>w'.cell? ⟨g,0,none⟩=some (.int .i64 (n0:Nat))∧w'.cell? ⟨g,1,none⟩=some (.int .i64 (n1:Nat))∧w'.cell? ⟨g,2,none⟩=some (.int .i64 (n2:Nat))) (go_keep) (fail);have a4:Hid (R=match Fr.rdE n3 ((l.drop 1).drop k) with | .error e=>.error e | .ok (es,j)=>if k+j=(l.drop 1).length then .ok { Fr0 with kind:=3,index:=⟨(n0:Nat),(n1:Nat),(n2:Nat),es⟩ } else .error 5):=by
      show _=_;rw[a3.out,Fr.rdI,y];rfl
    obtain⟨a5,bp⟩:∃a5,a5=(w2.alloc (.cells #[.int .i64 (n0:Nat),.int .i64 (n1:Nat),.int .i64 (n2:Nat),.slice none 0 0] 65)).drew:=⟨_,rfl⟩;have df:Hid (lf w2 a5 n0 n1 n2 (.slice none 0 0) []):=by
      rw[bp];exact⟨by rw[cz];exact am w2 _,hY _ _,gQy.drew⟩
    have b9:Hid ((w2.alloc (.cells #[.int .i64 (n0:Nat),.int .i64 (n1:Nat),.int .i64 (n2:Nat),.slice none 0 0] 65)).drew=a5):=(by rw[bp];exact rfl);rw[b9.out];have d5:g<w2.1.size:=di.out.1;have dj:=gQq cn;clear bp b9 ee ef eg cn a3 y;go_wp2_with fail;go_loopw [5,8] (fun el b1 wr=>∃(es:List Ent) (J m:Nat) (q:OA) (d:Nat),es.length<=n3∧b1=.int .i64 (es.length:Int)∧el=.int .i64 ((m:Nat):Int)∧m<=l.length∧Hid (m=1+k+J∧Fr.rdE n3 ((l.drop 1).drop k)=shX es J (Fr.rdE (n3-es.length) (l.drop m))∧lf w2 wr n0 n1 n2 (.slice q es.length d) es)) (fun _ b1 _=>n3-(intOf b1).toNat);case atStart=>exact⟨[],0,1+k,none,0,by simp,rfl,by simp,d7,by omega,by rw[wF,List.drop_drop];rfl,df.out⟩
    case round=>
      obtain⟨es,J,m,q,d,eu,rfl,rfl,ec,a0⟩:=hrel;have z:=gQq a0.out.2.2;have eh:wr.cell? ⟨g,3,none⟩=some (.int .i64 (n3:Nat)):=(z.out.keep.cell (p:=⟨g,3,none⟩) d5).trans dj.out;have ed:=z.out.size;have E:=gQq (X.out.trans (z.out.keep.mono bT));have Z:=gQq a0.out.2.1;have b8:=gQq a0.out.1;clear a0;by_cases d8:es.length<n3
      · have d9:(es.length:Int)<(n3:Int):=(by omega);have D:Hid (Below wr.1.size wr (wr.alloc (.cells #[.int .i64 1099511627776,.int .i64 1099511627776,.int .i64 1099511627776] 2))):=gQy;have I:=gQq (jq p c l (by omega) m wr.1.size ec [1099511627776,1099511627776,1099511627776] (by simp) (by simp) _ (b2.out.on (E.out.trans (D.out.mono E.out.size))) (gX (w:=wr) rfl (l:=toI [1099511627776,1099511627776,1099511627776]) rfl));have bc:Hid (n3-es.length=(n3-(es.length+1))+1):=(by show _=_;omega);go_wp2_with fail;refine I.out.mono ?_;rintro e w5 (⟨dv,y,rfl,U⟩ | ⟨ak,k1,e1,em,y,rfl,cj,U⟩)
        · have Q:Hid (R=.error 5):=by
            show _=_;rw[a4.out,Z.out,bc.out,wM es J y,<-jv _ y]
          have b5:=gQq (E.out.trans ((D.out.trans (U.mono D.out.size)).mono E.out.size));have cc:Below w2.1.size w2 w5:=z.out.keep.trans ((D.out.trans (U.mono D.out.size)).mono (Nat.le_of_lt ed));have K:=(cc.block _ (by omega)).trans a1.out;obtain⟨⟨cy,co⟩,⟨c5,cp⟩,⟨c7,cr⟩,⟨c8,a9⟩,⟨c9,b0⟩,⟨da,cs⟩,⟨db,ct⟩,⟨dc,cu⟩,⟨dd,cv⟩,⟨de,cw⟩,⟨c6,cq⟩⟩:=dx K;have a2:=gQq K;have a8:=b5.out.size;clear U I y K cc;go_wp2;refine bodyPost_ret (aw rfl _ _ w.1.size _ _ _ _ rfl (az a2.out _ _ _ _ _ _ _ _ _ _ _) Tryz.underlying67 rfl (by kernel_rfl)) rfl ?_;rw[Q.out];exact⟨rfl,b5.out.trans ((aA w5 w.1.size _ _ _ _ _ _ _ _ _ _ _).below a8 (fun k ab=>by omega))⟩
        · have br:=Fr.nbs_ok _ _ _ _ y;have cf:ak.length=3:=br.1;match ak,cf with
          | [ea,eb,eC],_=>
          have d6:m+k1<=l.length:=by
            obtain⟨-,-,r,be,bi⟩:=br;have:=congrArg List.length be;rw[List.length_append,List.length_drop,<-bi] at this;omega
          have cd:Below wr.1.size wr w5:=D.out.trans (U.mono D.out.size);obtain⟨ei,dr,bO,-,bN⟩:=cj.ints;rcases bN with bs | ⟨bj,d4,-,a6⟩
          · simp[toI] at bs
          injection bO with hq1 hq2 hq3;subst hq1;subst d4;have z0:w5.cell? ⟨bj,0,none⟩=some (.int .i64 (ea:Nat)):=a6.2 0 (by simp[toI]);have z1:w5.cell? ⟨bj,1,none⟩=some (.int .i64 (eb:Nat)):=a6.2 1 (by simp[toI]);have z2:w5.cell? ⟨bj,2,none⟩=some (.int .i64 (eC:Nat)):=a6.2 2 (by simp[toI]);have Y:=gQq (z.out.on cd);have a9:w5.cell? ⟨w2.1.size,3,none⟩=some (.slice q es.length d):=aa Y.out.bX 3;have b0:∀o,(w5.alloc o).cell? ⟨w2.1.size,3,none⟩=some (.slice q es.length d):=fun o=>ae (gQz.alloc gQx o) a9;have ez:=Y.out.size;have dn:Hid (Fr.rdE n3 ((l.drop 1).drop k)=shX (es++[⟨(ea:Nat),(eb:Nat),(eC:Nat)⟩]) (J+k1) (Fr.rdE (n3-(es.length+1)) (l.drop (m+k1)))):=by
            show _=_;rw[Z.out,bc.out,tV es J y,List.drop_drop]
          clear U I cj a6 br cf hq3 y cd z eh D bc Z;go_wp2_with fail
          go_region_law (first|(refine jJ (B:=w2.1.size+1) (es:=es) (v:=.slice q es.length d) (by first | exact Y.out.own.on gQy.drew | exact Y.out.own.on gQy) ⟨(ea:Nat),(eb:Nat),(eC:Nat)⟩ (ad:=w5.1.size) (by exact am w5 _) (by omega) (by show _<=(w5.alloc _).1.size;simp;omega) (H:=w5.1.size+1) (by show(w5.alloc _).1.size=_;simp) (.tmp 51) (.tmp 62) (by rfl) (by rfl) (by rfl) (by rfl) ?_;intro d0 ds cx O V _;have ce:(w5.alloc (.cells #[.int .i64 (ea:Nat),.int .i64 (eb:Nat),.int .i64 (eC:Nat)] 159)).grownBy cx (Value.slice q es.length d).ownBlock:=⟨V.os,V.tape,V.output,V.size,V.block⟩;have a7:=Y.out.more O ce;have e2:cx.cell? ⟨w2.1.size,3,none⟩=some (.slice q es.length d):=aa a7.1 3;have e3:=ac a7.1 3;have dk:=gQq a7.2;clear a7 O V ce)|fail)
          all_goals
            go_wp2;go_roundw;case rel=>
              refine⟨es++[⟨(ea:Nat),(eb:Nat),(eC:Nat)⟩],J+k1,m+k1,some ⟨d0,0,none⟩,ds,by simp;omega,by rw[List.length_append,List.length_singleton];go_num,by first | rfl | simp,d6,by have:=b8.out;omega,?_,?_⟩
              · rw[dn.out,List.length_append,List.length_singleton]
              · have:=dk.out;simpa using this
            case measure=>simp[intOf];omega
      · have bq:es.length=n3:=(by omega);have Q:Hid (R=if m=l.length then .ok { Fr0 with kind:=3,index:=⟨(n0:Nat),(n1:Nat),(n2:Nat),es⟩ } else .error 5):=by
          show _=_;rw[a4.out,Z.out,bq,Nat.sub_self,Fr.rdE];simp only[shX,List.append_nil,Nat.add_zero,List.length_drop];have:=b8.out;by_cases M:m=l.length
          · rw[if_pos (by omega),if_pos M]
          · rw[if_neg (by omega),if_neg M]
        have K:=(z.out.keep.block _ (by omega)).trans a1.out;obtain⟨⟨cy,co⟩,⟨c5,cp⟩,⟨c7,cr⟩,⟨c8,a9⟩,⟨c9,b0⟩,⟨da,cs⟩,⟨db,ct⟩,⟨dc,cu⟩,⟨dd,cv⟩,⟨de,cw⟩,⟨c6,cq⟩⟩:=dx K;have u0:=aa z.out.bX 0;have u1:=aa z.out.bX 1;have u2:=aa z.out.bX 2;have u3:=aa z.out.bX 3;simp only[List.getElem?_toArray,List.getElem?_cons_zero,List.getElem?_cons_succ] at u0 u1 u2 u3;have a2:=gQq K;have a8:=E.out.size;have d9:¬(es.length:Int)<(n3:Int):=(by omega);have dh:=gQq bq;clear K d8 bq Z;by_cases M:m=l.length
        · have bb:Hid (R=.ok { Fr0 with kind:=3,index:=⟨(n0:Nat),(n1:Nat),(n2:Nat),es⟩ }):=Q.out.trans (if_pos M);have d1:((m:Int) != (l.length:Int))=false:=bo (by omega);clear M Q;go_wp2;refine bodyPost_ret (aw rfl _ _ w.1.size _ _ _ _ rfl (az a2.out _ _ _ _ _ _ _ _ _ _ _) Tryz.underlying67 rfl (by kernel_rfl)) rfl ?_;rw[bb.out];have ca:=aA wr w.1.size (.int .i64 3) (.int .i64 0) (.slice none 0 0) (.int .i64 0) (.int .i64 0) (.int .i64 0) (.slice none 0 0) (.int .i64 (n0:Nat)) (.int .i64 (n1:Nat)) (.int .i64 (n2:Nat)) (.slice q es.length d);refine⟨_,rfl,⟨none,0,none,0,q,d,rfl,jK _ _,aM _ _,by simp[Fr0],?_,?_⟩,E.out.trans (ca.below a8 (fun k ab=>by omega))⟩
          · exact(z.out.own.aside ca (fun k ab er=>by have:=(z.out.own.lt k ab).1;omega)).low (by omega)
          · show es.length<=64;rw[dh.out];omega
        · have bb:Hid (R=.error 5):=Q.out.trans (if_neg M);have d1:((m:Int) != (l.length:Int))=true:=aQ (by omega);clear M Q;go_wp2;refine bodyPost_ret (aw rfl _ _ w.1.size _ _ _ _ rfl (az a2.out _ _ _ _ _ _ _ _ _ _ _) Tryz.underlying67 rfl (by kernel_rfl)) rfl ?_;rw[bb.out];exact⟨rfl,E.out.trans ((aA wr w.1.size _ _ _ _ _ _ _ _ _ _ _).below a8 (fun k ab=>by omega))⟩
end
end Go.Proofs.YtbahfgdbjgkklaaGreatDoor
