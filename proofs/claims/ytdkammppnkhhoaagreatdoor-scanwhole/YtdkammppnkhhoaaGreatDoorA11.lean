import Derived.Test.YtdkammppnkhhoaaGreatDoorA8
set_option maxRecDepth 100000
set_option maxHeartbeats 16000000
namespace Go.Proofs.YtdkammppnkhhoaaGreatDoor
variable{B H e g k1 lim m n0 n1 n2:Nat}{w w' w2 wr:World}{v:Value}{u:AV}{o:Obj}{f:Fr}{es:List Ent}
section
open Go.RowKit
def dx(w:World)(B:Nat)(v:Value)(l:List Int):Prop:=w.ownsRow B 2 1 v l.length (l.map fun n=>Value.int .i64 n)
theorem sT(w:World)(B:Nat):dx w B (.slice none 0 0) []:=⟨rfl,.inl ⟨rfl,rfl⟩⟩
section
variable {w w':World} {B:Nat} {v:Value} {l:List Int}
theorem dx.lt(h:dx w B v l):∀k,v.ownBlock=some k->B<=k∧k<w.1.size:=World.ownsRow.lt h
theorem dx.aside{F:Nat->Prop}(h:dx w B v l)(I:Aside F w w')(J:∀k,v.ownBlock=some k->¬F k):dx w' B v l:=by
 refine⟨h.1,?_⟩;rcases h.2 with A | ⟨g,cap,z,rfl,D,y,E⟩
 ·exact .inl A
 ·refine .inr ⟨g,cap,z,rfl,D,?_,E⟩;rw[I.block g (Array.getElem?_eq_some_iff.1 y).1 (J g rfl)];exact y
theorem dx.on(h:dx w B v l)(hb:Below w.1.size w w'):dx w' B v l:=h.aside (ae hb (fun _=>False)) (fun _ _ y=>y)
theorem dx.ints(h:dx w B v l):∃p c,v=.slice p l.length c∧l.length<=c∧(l=[]∨∃g,p=some ⟨g,0,none⟩∧B<=g∧Ints w g l):=by
 rcases h.2 with ⟨rfl,z⟩ | ⟨g,cap,L,rfl,D,y,E,M,O,I⟩
 ·have A:=List.eq_nil_of_length_eq_zero z;subst A;exact⟨none,0,rfl,xZ,.inl rfl⟩
 ·refine⟨_,cap,rfl,E,.inr ⟨g,rfl,D,(Array.getElem?_eq_some_iff.1 y).1,fun j K=>?_⟩⟩;have J:(l.map fun n=>Value.int .i64 n)[j]?=some (.int .i64 l[j]):=by simp[K]
  rw[<-J,<-I,List.getElem?_take_of_lt (by omega)];simp[World.cell?,y]
end
theorem vw:(Tryz.prog.info? 2).map (fun i=>(i.zero,i.size,i.bytes))=some (some (.int .i64 0),1,8):=by kernel_rfl
theorem qX{l:List Int}{n:Int}{ad:Nat}(V:dx w B v l)(K:w.1[ad]?=some (.cells #[.int .i64 n] 2 (0,0)))(R:(l.length+1)*8<=140737488355328)(E:B<=w.1.size)(I:w.1.size=H){ops:Array Oper}{rest:List Oper}{o:Oper}{a:Act}{Q:Exit->Act->World->Prop}{y x:Operand}(M:o.guard=none)(U:o.op=Op.call { callee:=Callee.builtin Builtin.append,args:=#[y,x],argTypes:=#[67,67] })(W:a.eval y=v)(Y:a.eval x=.slice (some ⟨ad,0,none⟩) 1 1)(J:∀g cap w',dx w' B (.slice (some ⟨g,0,none⟩) (l.length+1) cap) (l++[n])->w.grownBy w' v.ownBlock->(v.ownBlock=some g∨g=H)->wpList Tryz.prog ops Q rest (a.put o.dst (.slice (some ⟨g,0,none⟩) (l.length+1) cap)) w'):
  wpList Tryz.prog ops Q (o::rest) a w:=by
 obtain⟨i,O,Z,X,L⟩:=info_parts vw
 refine wpList_append_lies w M y x 67 U B 2 i (.int .i64 0) 1 8 Tryz.underlying67 O Z X L rfl (by decide) v l.length (l.map fun n=>Value.int .i64 n) W V ⟨ad,0,none⟩ 1 1 _ Y (by simp)
  (World.news_of_block K) (by simp[Value.oneCell']) (by decide) (by unfold maxLen;omega) R E H I fun g cap w' z A D _=>J g cap w' ?_ A D
 unfold dx;rw[List.length_append,List.map_append];simpa using z
theorem mi{l:List Int}(hb:Below w.1.size w wr)(A:dx wr w.1.size v l)(y:(wr.alloc o).grownBy w2 v.ownBlock):Below w.1.size w w2:=by
 refine hb.trans (Below.trans (((Below.refl _ wr).alloc xZ o).mono hb.size) ?_);refine⟨y.os,y.tape,y.output,y.size,fun b D=>y.block b (by have:=hb.size;simp;omega) (fun z=>?_)⟩;have:=(A.lt b (by first | exact z | exact z.symm)).1;omega
theorem qn(l:L8)(a:Nat)(h:(Leb.get (l.drop a)).err≠0):eF l a=.tuple #[.int .u64 0,.int .i64 0,.int .i64 ((Leb.get (l.drop a)).err:Nat)]:=by
 have hb:=Leb.getF_bad 10 true (l.drop a) h;refine cY l a _ h ?_;obtain⟨A,D⟩:=hb;have y:(Leb.get (l.drop a)).n=0:=A;have z:(Leb.get (l.drop a)).k=0:=D;generalize Leb.get (l.drop a)=g at y z;cases g
 simp_all
theorem sW(l:L8)(a:Nat)(h:(Leb.get (l.drop a)).err=0):eF l a=.tuple #[.int .u64 ((Leb.get (l.drop a)).n:Nat),.int .i64 ((a+(Leb.get (l.drop a)).k:Nat):Int),.int .i64 0]:=by
 have:=iz l a (Leb.get (l.drop a)).n (Leb.get (l.drop a)).k (by
  generalize Leb.get (l.drop a)=g at h;cases g
  simp_all)
 rw[this,Int.natCast_add]
def shN(ns:List Nat)(k:Nat)(r:Except Nat (List Nat×Nat)):Except Nat (List Nat×Nat):=match r with
 |.error e=>.error e
 |.ok (ms,j)=>.ok (ns++ms,k+j)
theorem tY(r:Except Nat (List Nat×Nat)):shN [] 0 r=r:=by
 cases r with
 |error e=>rfl
 |ok x=>obtain⟨y,j⟩:=x;simp[shN]
theorem oU{r:List Nat}{l:L8}(y:List Nat)(k:Nat)(h:Fr.nb lim l=.error e):shN y k (Fr.nbs (lim::r) l)=.error e:=by rw[Fr.nbs,h];rfl
theorem sq{r:List Nat}{l:L8}{n:Nat}(y:List Nat)(k:Nat)(h:Fr.nb lim l=.ok (n,k1)):shN y k (Fr.nbs (lim::r) l)=shN (y++[n]) (k+k1) (Fr.nbs r (l.drop k1)):=by
 rw[Fr.nbs,h];dsimp only;cases Fr.nbs r (l.drop k1) with
 |error e=>rfl
 |ok x=>obtain⟨z,j⟩:=x;simp[shN,Nat.add_assoc]
def toI(l:List Nat):List Int:=l.map Int.ofNat
theorem il(l:List Nat):(toI l).length=l.length:=by simp[toI]
theorem tV(l:List Nat)(j:Nat)(h:j<l.length):(toI l)[j]'(by rw[il];exact h)=(l[j]:Int):=by simp[toI]
theorem rl(l:List Nat)(n:Nat):toI (l++[n])=toI l++[(n:Int)]:=by simp[toI]
def xG(w:World)(a:Nat)(r:Except Nat (List Nat×Nat))(e:Ending)(w':World):Prop :=
 (∃er,r=.error er∧e=.returned (.tuple #[.slice none 0 0,.int .i64 0,.bool false])∧Below w.1.size w w') ∨
 (∃ns k q cap,r=.ok (ns,k)∧e=.returned (.tuple #[.slice q ns.length cap,.int .i64 ((a+k:Nat):Int),.bool true])∧dx w' w.1.size (.slice q ns.length cap) (toI ns)∧Below w.1.size w w')
theorem im(p:OA)(c:Nat)(l:L8)(b1:l.length<=140737488351232)(a Z:Nat)(bO:a<=l.length)(y:List Nat)(ck:y.length<=10)(be:∀x∈y,x<=1099511627776)(w:World)(h:At w p l)(bb:Ints w Z (toI y)):
    Calls Tryz.prog 86 #[.slice p l.length c,.int .i64 a,.slice (some ⟨Z,0,none⟩) y.length y.length] w (xG w a (Fr.nbs y (l.drop a))):=by
  have bk:=xX h;have a7:=xX bb;have bn:=xX be;obtain⟨I,a2⟩:∃I,I=Fr.nbs y (l.drop a):=⟨_,rfl⟩;rw[<-a2];have bs:=xX a2;clear h bb be a2;go_enter Tryz.func86,Tryz.ntmps86;go_wp2;go_loopw [1,9,10] (fun b6 b7 a6 wr=>∃(i k m:Nat) (A:List Nat),i<=y.length∧a6=.int .i64 i∧b6=.int .i64 ((m:Nat):Int)∧m<=l.length∧A.length=i∧Hid (m=a+k∧I=shN A k (Fr.nbs (y.drop i) (l.drop (a+k)))∧dx wr w.1.size b7 (toI A)∧Below w.1.size w wr)) (fun _ _ a6 _=>y.length-(intOf a6).toNat);case atStart=>exact⟨0,0,a,[],by omega,rfl,rfl,bO,rfl,rfl,by rw[tY,bs.out];rfl,sT _ _,xY⟩
  case round=>
    obtain⟨i,k,m,A,cb,rfl,rfl,cj,X,z⟩:=hrel;have b9:=z.out.2.2.2.size;have a8:=xX X;by_cases ah:i<y.length
    · have ci:(i:Int)<(y.length:Int):=(by omega);have bT:wr.cell? ⟨Z,i,none⟩=some (.int .i64 (y[i]:Nat)):=by
        rw[z.out.2.2.2.cell (p:=⟨Z,i,none⟩) a7.out.1,a7.out.2 i (by rw[il];exact ah),tV y i ah]
      have b2:=bn.out y[i] (List.getElem_mem ah);have J:=iX p c l (m:Int) b1 wr (bk.out.on z.out.2.2.2);have Y:Hid (y.drop i=y[i]::y.drop (i+1)):=List.drop_eq_getElem_cons ah;have R:Hid (I=shN A k (Fr.nbs (y[i]::y.drop (i+1)) (l.drop m))):=by
        show _=_;rw[z.out.2.1,Y.out,z.out.1]
      have D:Hid (Fr.nb y[i] (l.drop m)=match Sch.num (l.drop m) with | .error _=>.error 5 | .ok (n,k)=>if n<y[i] then .ok (n,k) else .error 5):=rfl;generalize y[i]=lim at bT b2 R D;have cc:(lim:Int)<=1099511627776:=(by omega);by_cases K:(Leb.get (l.drop m)).err=0
      · rw[sW l m K] at J;have bX:=Leb.get_ok (l.drop m) K;have U:Hid (Sch.num (l.drop m)=.ok ((Leb.get (l.drop m)).n,(Leb.get (l.drop m)).k)):=if_pos K;obtain⟨bN,-,a9,-⟩:=bX;rw[List.length_drop] at a9;obtain⟨n,a5⟩:∃n,n=(Leb.get (l.drop m)).n:=⟨_,rfl⟩;obtain⟨k1,a3⟩:∃k1,k1=(Leb.get (l.drop m)).k:=⟨_,rfl⟩;rw[<-a5,<-a3] at J U;rw[<-a5] at bN;rw[<-a3] at a9;rw[U.out] at D;have E:=xX J;clear K a5 a3 J U;obtain⟨ak,a4⟩:∃ak,ak=m+k1:=⟨_,rfl⟩;rw[<-a4] at E;have b3:ak<=l.length:=(by omega);have bp:=xX a4;clear a4;by_cases aj:n<lim
        · have W:Hid (Fr.nb lim (l.drop m)=.ok (n,k1)):=D.out.trans (if_pos aj);have O:Hid (I=shN (A++[n]) (k+k1) (Fr.nbs (y.drop (i+1)) (l.drop (a+(k+k1))))):=by
            show _=_;rw[R.out,sq A k W.out,List.drop_drop,z.out.1,Nat.add_assoc]
          have cn:(n:Int)<(lim:Int):=(by omega);have b4:¬(lim:Int)<=(n:Int):=(by omega);have V:=xX z.out.2.2.1;have M:=xX z.out.2.2.2;have a0:=xX z.out.1;clear D W R Y aj z X;go_wp2_with fail;refine E.out.mono ?_;rintro e w1 ⟨rfl,L⟩;rw[L];clear L w1 E
          go_wp2_with (first|(at_builtin;refine qX (V.out.on ((Below.refl _ wr).alloc xZ _)) (ag wr _) (by rw[il,a8.out];omega) (by simp;omega) rfl rfl rfl rfl rfl ?_;intro g cap w2 bj bd b5;have bq:=xX bj;have bl:=xX (mi M.out V.out bd);clear bj bd b5)|fail)
          go_roundw;case rel=>
            refine⟨i+1,k+k1,ak,A++[n],by omega,by go_num,rfl,b3,by rw[List.length_append,a8.out];rfl,by rw[bp.out,a0.out,Nat.add_assoc],O.out,?_,bl.out⟩;rw[rl];exact bq.out
          case measure=>simp[intOf];omega
        · have W:Hid (Fr.nb lim (l.drop m)=.error 5):=D.out.trans (if_neg aj);have O:Hid (I=.error 5):=by
            show _=_;rw[R.out,oU A k W.out]
          have b4:(lim:Int)<=(n:Int):=(by omega);have M:=xX z.out.2.2.2;clear D W R Y aj z X;go_wp2_with fail;refine E.out.mono ?_;rintro e w1 ⟨rfl,L⟩;rw[L];clear L w1 E;go_wp2
          go_ret3
          exact .inl ⟨_,O.out,rfl,M.out⟩
      · rw[qn l m K] at J;have U:Hid (Sch.num (l.drop m)=.error (Leb.get (l.drop m)).err):=if_neg K;rw[U.out] at D;have O:Hid (I=.error 5):=by
          show _=_;rw[R.out,oU A k D.out]
        obtain⟨a1,bc⟩:∃a1,a1=(Leb.get (l.drop m)).err:=⟨_,rfl⟩;rw[<-bc] at J K;have E:=xX J;have b8:((a1:Int) != 0)=true:=bz (by omega);have M:=xX z.out.2.2.2;clear D U R Y z X J bc K;go_wp2_with fail;refine E.out.mono ?_;rintro e w1 ⟨rfl,L⟩;rw[L];clear L w1 E;go_wp2
        go_ret3
        exact .inl ⟨_,O.out,rfl,M.out⟩
    · have b0:i=y.length:=(by omega);subst b0;have O:Hid (I=.ok (A,k)):=by
        show _=_;rw[z.out.2.1,List.drop_length,Fr.nbs];simp[shN]
      have V:=xX z.out.2.2.1;have M:=xX z.out.2.2.2;have a0:=xX z.out.1;obtain⟨q,cap,rfl,-,-⟩:=V.out.ints;rw[il] at V ⊢;clear z X;go_wp2
      go_ret3
      rw[a0.out];exact .inr ⟨A,k,q,cap,O.out,rfl,V.out,M.out⟩
end
section
open Go.RowKit
def shX(es:List Ent)(k:Nat)(r:Except Nat (List Ent×Nat)):Except Nat (List Ent×Nat):=match r with
 |.error e=>.error e
 |.ok (fs,j)=>.ok (es++fs,k+j)
theorem tX(r:Except Nat (List Ent×Nat)):shX [] 0 r=r:=by
 cases r with
 |error e=>rfl
 |ok x=>obtain⟨y,j⟩:=x;simp[shX]
theorem ul{l:L8}(es:List Ent)(k:Nat)(h:Fr.nbs [1099511627776,1099511627776,1099511627776] l=.error e):shX es k (Fr.rdE (m+1) l)=.error e:=by rw[Fr.rdE,h];rfl
theorem rS{a b c:Nat}{l:L8}(es:List Ent)(k:Nat)(h:Fr.nbs [1099511627776,1099511627776,1099511627776] l=.ok ([a,b,c],k1)):shX es k (Fr.rdE (m+1) l)=shX (es++[⟨(a:Nat),(b:Nat),(c:Nat)⟩]) (k+k1) (Fr.rdE m (l.drop k1)):=by
 rw[Fr.rdE,h];dsimp only;cases Fr.rdE m (l.drop k1) with
 |error e=>rfl
 |ok x=>obtain⟨y,j⟩:=x;simp[shX,Nat.add_assoc]
structure jP(w2 wr:World)(n0 n1 n2:Nat)(v:Value)(es:List Ent):Prop where
 bX:wr.1[w2.1.size]?=some (.cells #[.int .i64 n0,.int .i64 n1,.int .i64 n2,v] 45 (0,0))
 own:bv wr (w2.1.size+1) v es
 keep:Below w2.1.size w2 wr
theorem jP.size(h:jP w2 wr n0 n1 n2 v es):w2.1.size<wr.1.size:=az h.bX
theorem jP.on(h:jP w2 wr n0 n1 n2 v es)(hb:Below wr.1.size wr w'):jP w2 w' n0 n1 n2 v es :=
 ⟨(hb.block _ h.size).trans h.bX,h.own.on hb,h.keep.trans (hb.mono (Nat.le_of_lt h.size))⟩
theorem jP.more{y w4:World}{cap:Nat}{x:Ent}(h:jP w2 y n0 n1 n2 v es)(J:bv w4 (w2.1.size+1) (.slice (some ⟨g,0,none⟩) (es.length+1) cap) (es++[x]))(z:(y.alloc o).grownBy w4 v.ownBlock):
  w4.1[w2.1.size]?=some (.cells #[.int .i64 n0,.int .i64 n1,.int .i64 n2,v] 45 (0,0))∧jP w2 (w4.setCell ⟨w2.1.size,3,none⟩ (.slice (some ⟨g,0,none⟩) (es.length+1) cap)) n0 n1 n2 (.slice (some ⟨g,0,none⟩) (es.length+1) cap) (es++[x]):=by
 have R:=h.size;have U:(y.alloc o).1.size=y.1.size+1:=by simp
 have O:=z.size;have I:∀k,k<=w2.1.size->w4.1[k]?=y.1[k]?:=fun k A=>by
  rw[z.block k (by omega) (fun L=>by have:=(h.own.lt k L.symm).1;omega)];exact aG _ _ (by omega)
 have D:=(I _ xZ).trans h.bX;have E:Aside (fun i=>i=w2.1.size) w4 (w4.setCell ⟨w2.1.size,3,none⟩ (.slice (some ⟨g,0,none⟩) (es.length+1) cap)):=ai _ _ _ _;refine⟨D,?_,?_,?_⟩
 ·exact an D 3 (.slice (some ⟨g,0,none⟩) (es.length+1) cap)
 ·exact J.aside E (fun k A M=>by have:=(J.lt k A).1;omega)
 ·have K:Below w2.1.size y w4:=by
   refine⟨?_,?_,?_,by omega,fun k A=>I k (by omega)⟩
   ·exact z.os
   ·exact z.tape
   ·exact z.output
  exact(h.keep.trans K).trans (E.below (by omega) (fun k A=>by omega))
theorem cR{T:TypeId}{c0 c1 c2 c3 c4 z A D E I y:Value}(h:w.1[g]?=some (.cells #[c0,c1,c2,c3,c4,z,A,D,E,I,y] T (0,0))):(w.cell? ⟨g,0,none⟩=some c0∧w.frozen? ⟨g,0,none⟩=false)∧(w.cell? ⟨g,1,none⟩=some c1∧w.frozen? ⟨g,1,none⟩=false)∧(w.cell? ⟨g,2,none⟩=some c2∧w.frozen? ⟨g,2,none⟩=false)∧(w.cell? ⟨g,3,none⟩=some c3∧w.frozen? ⟨g,3,none⟩=false)∧(w.cell? ⟨g,4,none⟩=some c4∧w.frozen? ⟨g,4,none⟩=false)∧(w.cell? ⟨g,5,none⟩=some z∧w.frozen? ⟨g,5,none⟩=false)∧(w.cell? ⟨g,6,none⟩=some A∧w.frozen? ⟨g,6,none⟩=false)∧(w.cell? ⟨g,7,none⟩=some D∧w.frozen? ⟨g,7,none⟩=false)∧(w.cell? ⟨g,8,none⟩=some E∧w.frozen? ⟨g,8,none⟩=false)∧(w.cell? ⟨g,9,none⟩=some I∧w.frozen? ⟨g,9,none⟩=false)∧(w.cell? ⟨g,10,none⟩=some y∧w.frozen? ⟨g,10,none⟩=false) :=
 ⟨⟨aa h 0,ab h 0⟩,⟨aa h 1,ab h 1⟩,⟨aa h 2,ab h 2⟩,⟨aa h 3,ab h 3⟩,⟨aa h 4,ab h 4⟩,⟨aa h 5,ab h 5⟩,⟨aa h 6,ab h 6⟩,⟨aa h 7,ab h 7⟩,⟨aa h 8,ab h 8⟩,⟨aa h 9,ab h 9⟩,⟨aa h 10,ab h 10⟩⟩
theorem fS(y:w.1.size=H){l:List Int}{C:AV}(h:C=(l.map fun n=>Value.int .i64 n).toArray):Ints (w.alloc (.cells C 2)) H l:=by
 subst y;exact cH w l h
theorem ss{l:L8}(h:Fr.nb lim l=.error e):e=5:=by
 unfold Fr.nb at h;split at h
 ·injection h with h;omega
 ·split at h
  ·cases h
  ·injection h with h;omega
theorem iv:∀(y:List Nat) {l:L8} {e:Nat},Fr.nbs y l=.error e->e=5
 | [],l,e,h=>by rw[Fr.nbs] at h;cases h
 |a::y,l,e,h=>by
  rw[Fr.nbs] at h;split at h
  ·next e' he=>injection h with h;rw[<-h];exact ss he
  ·split at h
   ·next e' he=>injection h with h;rw[<-h];exact iv y he
   ·cases h
theorem nD(p:OA)(c:Nat)(l:L8)(f2:l.length<=2200)(eL:1<=l.length)(w:World)(h:At w p l):
    Calls Tryz.prog 88 #[.slice p l.length c] w (jQ w (Fr.rdI (l.drop 1))):=by
  obtain⟨w0,ak⟩:∃w0,w0=w.alloc (.cells #[.int .i64 0,.int .i64 0,.slice none 0 0,.int .i64 0,.int .i64 0,.int .i64 0,.slice none 0 0,.int .i64 0,.int .i64 0,.int .i64 0,.slice none 0 0] 47):=⟨_,rfl⟩;have cv:w0.1.size=w.1.size+1:=by rw[ak];simp
  have b5:Hid (Below w.1.size w w0):=by rw[ak];exact xV
  have cj:w0.1[w.1.size]?=some (.cells #[.int .i64 0,.int .i64 0,.slice none 0 0,.int .i64 0,.int .i64 0,.int .i64 0,.slice none 0 0,.int .i64 0,.int .i64 0,.int .i64 0,.slice none 0 0] 47 (0,0)):=by rw[ak];exact ag w _
  obtain⟨w1,a0⟩:∃w1,w1=w0.alloc (.cells #[.int .i64 1099511627776,.int .i64 1099511627776,.int .i64 1099511627776,.int .i64 65] 2):=⟨_,rfl⟩;have b6:Hid (Below w0.1.size w0 w1):=by rw[a0];exact xV
  have X:Hid (Below w.1.size w w1):=b5.out.trans (b6.out.mono b5.out.size);have f4:w1.1.size=w.1.size+2:=by rw[a0];simp[cv]
  have b8:Hid (Ints w1 (w.1.size+1) (toI [1099511627776,1099511627776,1099511627776,65])):=by rw[a0];exact fS cv rfl
  have b9:=xX ((b6.out.block _ (by omega)).trans cj);have ep:Hid ((w.alloc (.cells #[.int .i64 0,.int .i64 0,.slice none 0 0,.int .i64 0,.int .i64 0,.int .i64 0,.slice none 0 0,.int .i64 0,.int .i64 0,.int .i64 0,.slice none 0 0] 47)).alloc (.cells #[.int .i64 1099511627776,.int .i64 1099511627776,.int .i64 1099511627776,.int .i64 65] 2)=w1):=by rw[a0,ak];exact rfl
  have b4:=xX h;have I:=xX (im p c l (by omega) 1 (w.1.size+1) eL [1099511627776,1099511627776,1099511627776,65] (by simp) (by simp) w1 (b4.out.on X.out) b8.out);obtain⟨D,bp⟩:∃D,D=Fr.rdI (l.drop 1):=⟨_,rfl⟩;rw[<-bp];have a5:=xX bp;clear ak a0 cj b8 h bp;go_enter Tryz.func88,Tryz.ntmps88;go_wp2_with fail;rw[ep.out];refine I.out.mono ?_;rintro e w2 (⟨eu,y,rfl,L⟩ | ⟨a1,k,q,cap,y,rfl,cs,L⟩)
  · have a6:Hid (D=.error 5):=by
      show _=_;rw[a5.out,Fr.rdI,y,<-iv _ y]
    have Y:=xX (X.out.trans (L.mono X.out.size));have bn:=(L.block _ (by omega)).trans b9.out;obtain⟨⟨dr,cx⟩,⟨ds,cy⟩,⟨d0,c6⟩,⟨d1,bc⟩,⟨d2,b2⟩,⟨d3,c7⟩,⟨d4,c8⟩,⟨d5,c9⟩,⟨d6,dd⟩,⟨d7,df⟩,⟨dv,c5⟩⟩:=cR bn;have a3:=xX bn;have b1:=Y.out.size;clear L I a5 y bn;go_wp2;refine bodyPost_ret (ap rfl _ _ w.1.size _ _ _ _ rfl (aA a3.out _ _ _ _ _ _ _ _ _ _ _) Tryz.underlying47 rfl (by kernel_rfl)) rfl ?_;rw[a6.out];exact⟨rfl,Y.out.trans ((ay w2 w.1.size _ _ _ _ _ _ _ _ _ _ _).below b1 (fun k aj=>by omega))⟩
  · have O:=Fr.nbs_ok _ _ _ _ y;have cq:a1.length=4:=O.1;match a1,cq with
    | [n0,n1,n2,n3],_=>
    have fv:n3<65:=O.2.1 3 (by simp) (by simp);have e2:1+k<=l.length:=by
      obtain⟨-,-,r,bj,bk⟩:=O;have:=congrArg List.length bj;rw[List.length_append,List.length_drop,<-bk] at this;omega
    have Y:=xX (X.out.trans (L.mono X.out.size));have a3:=xX ((L.block _ (by omega)).trans b9.out);obtain⟨fo,eq,b0,-,bT⟩:=cs.ints;rcases bT with bO | ⟨g,eS,fx,U⟩
    · simp[toI] at bO
    injection b0 with hq1 hq2 hq3;subst hq1;subst eS;have e7:w2.cell? ⟨g,0,none⟩=some (.int .i64 (n0:Nat)):=U.2 0 (by simp[toI]);have e8:w2.cell? ⟨g,1,none⟩=some (.int .i64 (n1:Nat)):=U.2 1 (by simp[toI]);have e9:w2.cell? ⟨g,2,none⟩=some (.int .i64 (n2:Nat)):=U.2 2 (by simp[toI]);have cw:w2.cell? ⟨g,3,none⟩=some (.int .i64 (n3:Nat)):=U.2 3 (by simp[toI]);have ec:=xX U;have b1:=Y.out.size;clear L I cs U O cq hq3;go_wp2_with fail;go_region_held3 (fun w'=>w'.cell? ⟨g,0,none⟩=some (.int .i64 (n0:Nat))∧w'.cell? ⟨g,1,none⟩=some (.int .i64 (n1:Nat))∧w'.cell? ⟨g,2,none⟩=some (.int .i64 (n2:Nat))) (go_keep) (fail);have a6:Hid (D=match Fr.rdE n3 ((l.drop 1).drop k) with | .error e=>.error e | .ok (es,j)=>if k+j=(l.drop 1).length then .ok { Fr0 with kind:=3,index:=⟨(n0:Nat),(n1:Nat),(n2:Nat),es⟩ } else .error 5):=by
      show _=_;rw[a5.out,Fr.rdI,y];rfl
    obtain⟨a7,bq⟩:∃a7,a7=(w2.alloc (.cells #[.int .i64 (n0:Nat),.int .i64 (n1:Nat),.int .i64 (n2:Nat),.slice none 0 0] 45)).drew:=⟨_,rfl⟩;have d8:Hid (jP w2 a7 n0 n1 n2 (.slice none 0 0) []):=by
      rw[bq];exact⟨by rw[bY];exact ag w2 _,dn _ _,xV.drew⟩
    have cc:Hid ((w2.alloc (.cells #[.int .i64 (n0:Nat),.int .i64 (n1:Nat),.int .i64 (n2:Nat),.slice none 0 0] 45)).drew=a7):=(by rw[bq];exact rfl);rw[cc.out];have e0:g<w2.1.size:=ec.out.1;have el:=xX cw;clear bq cc e7 e8 e9 cw a5 y;go_wp2_with fail;go_loopw [5,8] (fun fr b3 wr=>∃(es:List Ent) (J m:Nat) (q:OA) (d:Nat),es.length<=n3∧b3=.int .i64 (es.length:Int)∧fr=.int .i64 ((m:Nat):Int)∧m<=l.length∧Hid (m=1+k+J∧Fr.rdE n3 ((l.drop 1).drop k)=shX es J (Fr.rdE (n3-es.length) (l.drop m))∧jP w2 wr n0 n1 n2 (.slice q es.length d) es)) (fun _ b3 _=>n3-(intOf b3).toNat);case atStart=>exact⟨[],0,1+k,none,0,by simp,rfl,by simp,e2,by omega,by rw[tX,List.drop_drop];rfl,d8.out⟩
    case round=>
      obtain⟨es,J,m,q,d,f0,rfl,rfl,e5,a2⟩:=hrel;have z:=xX a2.out.2.2;have fi:wr.cell? ⟨g,3,none⟩=some (.int .i64 (n3:Nat)):=(z.out.keep.cell (p:=⟨g,3,none⟩) e0).trans el.out;have e6:=z.out.size;have E:=xX (Y.out.trans (z.out.keep.mono b1));have ah:=xX a2.out.2.1;have cb:=xX a2.out.1;clear a2;by_cases e3:es.length<n3
      · have e4:(es.length:Int)<(n3:Int):=(by omega);have A:Hid (Below wr.1.size wr (wr.alloc (.cells #[.int .i64 1099511627776,.int .i64 1099511627776,.int .i64 1099511627776] 2))):=xV;have I:=xX (im p c l (by omega) m wr.1.size e5 [1099511627776,1099511627776,1099511627776] (by simp) (by simp) _ (b4.out.on (E.out.trans (A.out.mono E.out.size))) (fS (w:=wr) rfl (l:=toI [1099511627776,1099511627776,1099511627776]) rfl));have be:Hid (n3-es.length=(n3-(es.length+1))+1):=(by show _=_;omega);go_wp2_with fail;refine I.out.mono ?_;rintro e w5 (⟨eu,y,rfl,V⟩ | ⟨a1,k1,f5,fs,y,rfl,ct,V⟩)
        · have R:Hid (D=.error 5):=by
            show _=_;rw[a6.out,ah.out,be.out,ul es J y,<-iv _ y]
          have b7:=xX (E.out.trans ((A.out.trans (V.mono A.out.size)).mono E.out.size));have ck:Below w2.1.size w2 w5:=z.out.keep.trans ((A.out.trans (V.mono A.out.size)).mono (Nat.le_of_lt e6));have K:=(ck.block _ (by omega)).trans a3.out;obtain⟨⟨dr,cx⟩,⟨ds,cy⟩,⟨d0,c6⟩,⟨d1,bc⟩,⟨d2,b2⟩,⟨d3,c7⟩,⟨d4,c8⟩,⟨d5,c9⟩,⟨d6,dd⟩,⟨d7,df⟩,⟨dv,c5⟩⟩:=cR K;have a4:=xX K;have bb:=b7.out.size;clear V I y K ck;go_wp2;refine bodyPost_ret (ap rfl _ _ w.1.size _ _ _ _ rfl (aA a4.out _ _ _ _ _ _ _ _ _ _ _) Tryz.underlying47 rfl (by kernel_rfl)) rfl ?_;rw[R.out];exact⟨rfl,b7.out.trans ((ay w5 w.1.size _ _ _ _ _ _ _ _ _ _ _).below bb (fun k aj=>by omega))⟩
        · have bN:=Fr.nbs_ok _ _ _ _ y;have cp:a1.length=3:=bN.1;match a1,cp with
          | [ea,eb,eC],_=>
          have e1:m+k1<=l.length:=by
            obtain⟨-,-,r,bj,bk⟩:=bN;have:=congrArg List.length bj;rw[List.length_append,List.length_drop,<-bk] at this;omega
          have cn:Below wr.1.size wr w5:=A.out.trans (V.mono A.out.size);obtain⟨fo,eq,b0,-,bT⟩:=ct.ints;rcases bT with bO | ⟨bl,eU,-,a8⟩
          · simp[toI] at bO
          injection b0 with hq1 hq2 hq3;subst hq1;subst eU;have f8:w5.cell? ⟨bl,0,none⟩=some (.int .i64 (ea:Nat)):=a8.2 0 (by simp[toI]);have f9:w5.cell? ⟨bl,1,none⟩=some (.int .i64 (eb:Nat)):=a8.2 1 (by simp[toI]);have gb:w5.cell? ⟨bl,2,none⟩=some (.int .i64 (eC:Nat)):=a8.2 2 (by simp[toI]);have Z:=xX (z.out.on cn);have bc:w5.cell? ⟨w2.1.size,3,none⟩=some (.slice q es.length d):=aa Z.out.bX 3;have b2:∀o,(w5.alloc o).cell? ⟨w2.1.size,3,none⟩=some (.slice q es.length d):=fun o=>ac (xY.alloc xZ o) bc;have f3:=Z.out.size;have en:Hid (Fr.rdE n3 ((l.drop 1).drop k)=shX (es++[⟨(ea:Nat),(eb:Nat),(eC:Nat)⟩]) (J+k1) (Fr.rdE (n3-(es.length+1)) (l.drop (m+k1)))):=by
            show _=_;rw[ah.out,be.out,rS es J y,List.drop_drop]
          clear V I ct a8 bN cp hq3 y cn z fi A be ah;go_wp2_with fail
          go_region_law (first|(refine fm (B:=w2.1.size+1) (es:=es) (v:=.slice q es.length d) (by first | exact Z.out.own.on xV.drew | exact Z.out.own.on xV) ⟨(ea:Nat),(eb:Nat),(eC:Nat)⟩ (ad:=w5.1.size) (by exact ag w5 _) (by omega) (by show _<=(w5.alloc _).1.size;simp;omega) (H:=w5.1.size+1) (by show(w5.alloc _).1.size=_;simp) (.tmp 51) (.tmp 62) (by rfl) (by rfl) (by rfl) (by rfl) ?_;intro ew er dp O W _;have co:(w5.alloc (.cells #[.int .i64 (ea:Nat),.int .i64 (eb:Nat),.int .i64 (eC:Nat)] 61)).grownBy dp (Value.slice q es.length d).ownBlock:=⟨W.os,W.tape,W.output,W.size,W.block⟩;have a9:=Z.out.more O co;have f6:dp.cell? ⟨w2.1.size,3,none⟩=some (.slice q es.length d):=aa a9.1 3;have f7:=ab a9.1 3;have em:=xX a9.2;clear a9 O W co)|fail)
          all_goals
            go_wp2;go_roundw;case rel=>
              refine⟨es++[⟨(ea:Nat),(eb:Nat),(eC:Nat)⟩],J+k1,m+k1,some ⟨ew,0,none⟩,er,by simp;omega,by rw[List.length_append,List.length_singleton];go_num,by first | rfl | simp,e1,by have:=cb.out;omega,?_,?_⟩
              · rw[en.out,List.length_append,List.length_singleton]
              · have:=em.out;simpa using this
            case measure=>simp[intOf];omega
      · have bs:es.length=n3:=(by omega);have R:Hid (D=if m=l.length then .ok { Fr0 with kind:=3,index:=⟨(n0:Nat),(n1:Nat),(n2:Nat),es⟩ } else .error 5):=by
          show _=_;rw[a6.out,ah.out,bs,Nat.sub_self,Fr.rdE];simp only[shX,List.append_nil,Nat.add_zero,List.length_drop];have:=cb.out;by_cases M:m=l.length
          · rw[if_pos (by omega),if_pos M]
          · rw[if_neg (by omega),if_neg M]
        have K:=(z.out.keep.block _ (by omega)).trans a3.out;obtain⟨⟨dr,cx⟩,⟨ds,cy⟩,⟨d0,c6⟩,⟨d1,bc⟩,⟨d2,b2⟩,⟨d3,c7⟩,⟨d4,c8⟩,⟨d5,c9⟩,⟨d6,dd⟩,⟨d7,df⟩,⟨dv,c5⟩⟩:=cR K;have u0:=aa z.out.bX 0;have u1:=aa z.out.bX 1;have u2:=aa z.out.bX 2;have u3:=aa z.out.bX 3;simp only[List.getElem?_toArray,List.getElem?_cons_zero,List.getElem?_cons_succ] at u0 u1 u2 u3;have a4:=xX K;have bb:=E.out.size;have e4:¬(es.length:Int)<(n3:Int):=(by omega);have d9:=xX bs;clear K e3 bs ah;by_cases M:m=l.length
        · have bd:Hid (D=.ok { Fr0 with kind:=3,index:=⟨(n0:Nat),(n1:Nat),(n2:Nat),es⟩ }):=R.out.trans (if_pos M);have ez:((m:Int) != (l.length:Int))=false:=cd (by omega);clear M R;go_wp2;refine bodyPost_ret (ap rfl _ _ w.1.size _ _ _ _ rfl (aA a4.out _ _ _ _ _ _ _ _ _ _ _) Tryz.underlying47 rfl (by kernel_rfl)) rfl ?_;rw[bd.out];have ci:=ay wr w.1.size (.int .i64 3) (.int .i64 0) (.slice none 0 0) (.int .i64 0) (.int .i64 0) (.int .i64 0) (.slice none 0 0) (.int .i64 (n0:Nat)) (.int .i64 (n1:Nat)) (.int .i64 (n2:Nat)) (.slice q es.length d);refine⟨_,rfl,⟨none,0,none,0,q,d,rfl,iM _ _,aI _ _,by simp[Fr0],?_,?_⟩,E.out.trans (ci.below bb (fun k aj=>by omega))⟩
          · exact(z.out.own.aside ci (fun k aj fy=>by have:=(z.out.own.lt k aj).1;omega)).low (by omega)
          · show es.length<=64;rw[d9.out];omega
        · have bd:Hid (D=.error 5):=R.out.trans (if_neg M);have ez:((m:Int) != (l.length:Int))=true:=bz (by omega);clear M R;go_wp2;refine bodyPost_ret (ap rfl _ _ w.1.size _ _ _ _ rfl (aA a4.out _ _ _ _ _ _ _ _ _ _ _) Tryz.underlying47 rfl (by kernel_rfl)) rfl ?_;rw[bd.out];exact⟨rfl,E.out.trans ((ay wr w.1.size _ _ _ _ _ _ _ _ _ _ _).below bb (fun k aj=>by omega))⟩
end
section
open Go.RowKit
theorem aJ(h:w.1[g]?=some o):g<w.1.size:=(Array.getElem?_eq_some_iff.1 h).1
theorem fq{s:List Col}{G:Nat->Prop}(h:cS w B u s)(I:Aside G w w')(y:∀k,B<=k->k<w.1.size->¬G k):cS w' B u s:=by
 obtain⟨v,us,E,rfl,hb,J⟩:=h.out;exact⟨v,us,E,rfl,hb.aside I (fun g z=>y g (hb.lt g z).1 (hb.lt g z).2) (fun j A k D=>y k (hb.range j A k D).1 (hb.range j A k D).2),J⟩
theorem cT.aside{G:Nat->Prop}(h:cT w B u f)(E:Aside G w w')(D:∀k,B<=k->k<w.1.size->¬G k):cT w' B u f:=by
 obtain⟨sp,V,J,I,L,K,M,O,z,R,A,U⟩:=h.out;exact⟨sp,V,J,I,L,K,M,fq O E D,z.aside E (fun k y=>D k (z.lt k y).1 (z.lt k y).2),R,A.aside E (fun k y=>D k (A.lt k y).1 (A.lt k y).2),U⟩
theorem cT.low{B':Nat}(h:cT w B u f)(y:B'<=B):cT w B' u f:=by
 obtain⟨sp,R,A,z,E,D,I,J,K,L,M,O⟩:=h.out;exact⟨sp,R,A,z,E,D,I,fF J y,K.low y,L,M.low y,O⟩
theorem oT(lim:Nat)(l:L8):Fr.nbs [lim] l=match Fr.nb lim l with | .error e=>.error e | .ok (n,k)=>.ok ([n],k):=by
 unfold Fr.nbs;cases Fr.nb lim l with
 |error e=>rfl
 |ok r=>rfl
theorem oV(y z A D:UInt8)(S:Nat):[y,z,A,D]=Sch.le 4 S↔∀j (_:j<4),([y,z,A,D]:L8)[j].toNat=S / 256 ^ j % 256:=by
 have e:Sch.le 4 S=[UInt8.ofNat (S % 256),UInt8.ofNat (S / 256 % 256),UInt8.ofNat (S / 256 / 256 % 256),UInt8.ofNat (S / 256 / 256 / 256 % 256)]:=rfl;rw[e];constructor
 ·intro h j L;simp only[List.cons.injEq,and_true] at h;obtain⟨rfl,rfl,rfl,rfl⟩:=h;match j,L with
  |0,_=>simp
  |1,_=>simp
  |2,_=>simp[Nat.div_div_eq_div_mul]
  |3,_=>simp[Nat.div_div_eq_div_mul]
 ·intro h;have E:=h 0 (by omega);have I:=h 1 (by omega);have J:=h 2 (by omega);have K:=h 3 (by omega);simp only[List.getElem_cons_zero,List.getElem_cons_succ] at E I J K;simp only[List.cons.injEq,and_true];refine⟨UInt8.toNat_inj.1 ?_,UInt8.toNat_inj.1 ?_,UInt8.toNat_inj.1 ?_,UInt8.toNat_inj.1 ?_⟩
  ·rw[E];simp
  ·rw[I];simp
  ·rw[J];simp[Nat.div_div_eq_div_mul]
  ·rw[K];simp[Nat.div_div_eq_div_mul]
theorem uq{l C:L8}{y z A D:UInt8}(K:l.length<=2200)(I:Cob.un l=(0,C++[y,z,A,D]))(J:1<=C.length):Fr.open_ l=if [y,z,A,D]=Sch.le 4 (Crc.sum C) then .ok C else .error 120:=by
 unfold Fr.open_;have E:(C++[y,z,A,D]).length-4=C.length:=by simp
 rw[if_neg (by omega),I];simp only[ne_eq,not_true_eq_false,if_false];rw[if_neg (by simp;omega),E,List.drop_left,List.take_left]
theorem nG(p:OA)(c:Nat)(l:L8)(hw:l.length<=2200)(C:L8)(b8 b9 cb cc:UInt8)(cy:Cob.un l=(0,C++[b8,b9,cb,cc]))(dv:1<=C.length)(hn:C.length<=2200)(w:World)(h:At w p l):
    Calls Tryz.prog 62 #[.slice p l.length c] w (jQ w (Fr.dec l)):=by
  obtain⟨w0,d4⟩:∃w0,w0=w.alloc (.cells #[.int .i64 0,.int .i64 0,.slice none 0 0,.int .i64 0,.int .i64 0,.int .i64 0,.slice none 0 0,.int .i64 0,.int .i64 0,.int .i64 0,.slice none 0 0] 47):=⟨_,rfl⟩;have hX:w0.1.size=w.1.size+1:=by rw[d4];simp
  have ez:Hid (Below w.1.size w w0):=by rw[d4];exact xV
  have gt:w0.1[w.1.size]?=some (.cells #[.int .i64 0,.int .i64 0,.slice none 0 0,.int .i64 0,.int .i64 0,.int .i64 0,.slice none 0 0,.int .i64 0,.int .i64 0,.int .i64 0,.slice none 0 0] 47 (0,0)):=by rw[d4];exact ag w _
  have gl:Hid (w.alloc (.cells #[.int .i64 0,.int .i64 0,.slice none 0 0,.int .i64 0,.int .i64 0,.int .i64 0,.slice none 0 0,.int .i64 0,.int .i64 0,.int .i64 0,.slice none 0 0] 47)=w0):=by rw[d4];exact rfl
  have el:=xX (ey p c l (by omega) w0 (h.on ez.out));rw[cy] at el;simp only at el;have hT:¬(2200:Int)<(l.length:Int):=by omega
  obtain⟨R,ep⟩:∃R,R=Fr.dec l:=⟨_,rfl⟩;rw[<-ep];have eS:=xX (uq hw cy dv);have ec:=xX ep;have gf:=xX ep;clear d4 h ep cy;go_enter Tryz.func62,Tryz.ntmps62;go_wp2_with fail;rw[gl.out];refine el.out.mono ?_;rintro e w1 ⟨v,rfl,d3,e7⟩;obtain⟨q,cap,rfl,gs,hr⟩:=d3.at;obtain⟨I,J,rfl,hq,c8⟩:=aL gs (by simp);have e9:∀j (cj:j<C.length),w1.cell? ⟨I,J+j,none⟩=some (.int .u8 (C[j].toNat:Int)):=fun j cj=>by
    rw[c8 j (by simp;omega),List.getElem_append_left cj]
  have gn:w1.cell? ⟨I,J+C.length,none⟩=some (.int .u8 (b8.toNat:Int)):=by have:=c8 C.length (by simp);simpa using this
  have aj:w1.cell? ⟨I,J+(C.length+1),none⟩=some (.int .u8 (b9.toNat:Int)):=by have:=c8 (C.length+1) (by simp);simpa using this
  have ak:w1.cell? ⟨I,J+(C.length+2),none⟩=some (.int .u8 (cb.toNat:Int)):=by have:=c8 (C.length+2) (by simp);simpa using this
  have gq:w1.cell? ⟨I,J+(C.length+3),none⟩=some (.int .u8 (cc.toNat:Int)):=by have:=c8 (C.length+3) (by simp);simpa using this
  have co:Hid (At w1 (some ⟨I,J,none⟩) C):=.inr ⟨I,J,rfl,hq,e9⟩;have b3:=xX (ez.out.trans (e7.mono ez.out.size));have e3:=(e7.block _ (by omega)).trans gt;have Z:=xX e3;obtain⟨⟨bn,a6⟩,⟨bp,a7⟩,⟨bs,a9⟩,⟨bN,bb⟩,⟨bO,bc⟩,⟨bT,bd⟩,⟨bX,be⟩,⟨b0,bj⟩,⟨b1,bk⟩,⟨b2,bl⟩,⟨bq,a8⟩⟩:=cR e3;have gh:=xX (iU (some ⟨I,J,none⟩) cap C (by omega) w1 co.out);have g1:(C++[b8,b9,cb,cc]).length=C.length+4:=by simp
  rw[g1] at hr ⊢;have hS:¬((C.length:Int)+4<5):=by omega
  clear d3 gs c8 e7 gt e3 el gl g1;go_wp2_with fail;refine gh.out.mono ?_;rintro e w2 ⟨rfl,g4⟩;rw[g4];clear g4 w2 gh;have e0:Hid (Crc.sum C<4294967296):=Crc.update_lt (by omega) C;obtain⟨S,e5⟩:∃S,S=Crc.sum C:=⟨_,rfl⟩;rw[<-e5] at e0 ⊢;have eU:=xX e5;clear e5;have gN:∀i (fr:i<4),w1.cell? ⟨I,J+(C.length+i),none⟩=some (.int .u8 (([b8,b9,cb,cc]:L8)[i].toNat:Int)):=fun i fr=>by
    match i,fr with
    |0,_=>exact gn
    |1,_=>exact aj
    |2,_=>exact ak
    |3,_=>exact gq
  have f8:=xX gN;clear gn aj ak gq gN;go_wp2;go_loopw [7,8] (fun hG f7 wr=>∃i s:Nat,i<=4∧f7=.int .i64 i∧hG=.int .u32 s∧s<4294967296∧wr=w1∧Hid (s=S / 256 ^ i∧∀j (cj:j<4),j<i->([b8,b9,cb,cc]:L8)[j].toNat=S / 256 ^ j % 256)) (fun _ f7 _=>4-(intOf f7).toNat);case atStart=>exact⟨0,S,by omega,rfl,rfl,e0.out,rfl,by simp,fun j _ cj=>by omega⟩
  case round=>
    obtain⟨i,s,fr,rfl,rfl,hV,rfl,cp⟩:=hrel;by_cases g2:i<4
    · have hR:(i:Int)<4:=(by omega);have g0:=f8.out i g2;obtain⟨df,d2⟩:∃df,df=([b8,b9,cb,cc]:L8)[i]:=⟨_,rfl⟩;rw[<-d2] at g0;by_cases eq:df.toNat=s % 256
      · have hb:((df.toNat:Int) != (s:Int) % 256)=false:=(by rw[eq];simp);rw[eq] at g0;have gb:Hid (s / 256=S / 256 ^ (i+1)∧∀j (cj:j<4),j<i+1->([b8,b9,cb,cc]:L8)[j].toNat=S / 256 ^ j % 256):=by
          refine⟨?_,fun j cj hP=>?_⟩
          · rw[cp.out.1,Nat.div_div_eq_div_mul,Nat.pow_succ]
          · by_cases hv:j=i
            · subst hv;rw[<-d2,eq,cp.out.1]
            · exact cp.out.2 j cj (by omega)
        clear cp d2;go_wp2;go_roundw;case rel=>exact⟨i+1,s / 256,by omega,by go_num,by go_num,by omega,trivial,gb.out⟩
        case measure=>simp[intOf];omega
      · have hb:((df.toNat:Int) != (s:Int) % 256)=true:=(by rw[bne_iff_ne];omega);have E:Hid (R=.error 120):=by
          show _=_;rw[ec.out,Fr.dec,eS.out,<-eU.out,if_neg];intro c7;exact eq (by rw[d2,(oV b8 b9 cb cc S).1 c7 i g2,cp.out.1])
        have cs:=b3.out.size;clear cp d2 ec;go_wp2;refine bodyPost_ret (ap rfl _ _ w.1.size _ _ _ _ rfl (aA Z.out _ _ _ _ _ _ _ _ _ _ _) Tryz.underlying47 rfl (by kernel_rfl)) rfl ?_;rw[E.out];exact⟨rfl,b3.out.trans ((ay wr w.1.size _ _ _ _ _ _ _ _ _ _ _).below cs (fun k V=>by omega))⟩
    · have hu:i=4:=(by omega);subst hu;have b4:Hid (R=Fr.rdF (C.headD 0).toNat C.tail):=by
        show _=_;rw[ec.out,Fr.dec,eS.out,<-eU.out,if_pos ((oV b8 b9 cb cc S).2 (fun j cj=>cp.out.2 j cj (by omega)))]
      have cs:=b3.out.size;have c0:=e9 0 (by omega);obtain⟨d8,fs⟩:∃d8,d8=C[0]'(by omega):=⟨_,rfl⟩;rw[<-fs] at c0;have aj:C.headD 0=d8:=(by rw[fs];cases C with | nil=>simp at dv | cons a b=>rfl);have ak:C.tail=C.drop 1:=(by simp);rw[aj,ak] at b4;rw[Nat.add_zero] at c0;obtain⟨cn,fv⟩:∃cn,cn=d8.toNat:=⟨_,rfl⟩;have hQ:cn<256:=(by rw[fv];exact d8.toNat_lt);rw[<-fv] at b4 c0;clear fs aj ak fv;clear cp eS eU e0 ec e9 f8;by_cases dr:cn=1
      · have c1:wr.cell? ⟨I,J,none⟩=some (.int .u8 1):=(by rw[c0,dr];rfl);have E:Hid (R=Fr.rdS (C.drop 1)):=by
          show _=_;rw[b4.out,Fr.rdF,if_pos dr]
        obtain⟨a1,ck⟩:∃a1,a1=wr.alloc (.cells #[.int .i64 2147483648] 2):=⟨_,rfl⟩;have a5:Below wr.1.size wr a1:=(by rw[ck];exact xV);have e1:Hid (wr.alloc (.cells #[.int .i64 2147483648] 2)=a1):=(by rw[ck];exact rfl);have d0:Ints a1 wr.1.size (toI [2147483648]):=(by rw[ck];exact fS rfl rfl);have b6:=xX (im (some ⟨I,J,none⟩) cap C (by omega) 1 wr.1.size dv [2147483648] (by simp) (by simp) a1 (co.out.on a5) d0);rw[oT] at b6;have d1:=(a5.block _ (aJ Z.out)).trans Z.out;have ah:=xX d1;have b5:=xX (b3.out.trans (a5.mono cs));have c9:=xX (co.out.on a5);have d6:=b5.out.size;have hp:=aJ ah.out;clear c0 b4 bn bp bs bN bO bT bX b0 b1 b2 bq a6 a7 a9 bb bc bd be bj bk bl a8 ck a5 d0 d1 b3 Z co;go_wp2_with fail;rw[e1.out];refine b6.out.mono ?_;rintro e w2 eu;cases hnb:Fr.nb 2147483648 (C.drop 1) with
        |error dp=>
          rw[hnb] at eu;rcases eu with ⟨hk,M,rfl,y⟩ | ⟨ew,k,q,gm,M,rfl,cw,y⟩
          · have L:Hid (R=.error 5):=by
              show _=_;rw[E.out,Fr.rdS,hnb,<-ss hnb]
            have A:=(y.block _ (aJ ah.out)).trans ah.out;have D:=xX A;have K:=xX (b5.out.trans (y.mono d6));have O:=K.out.size;obtain⟨⟨bn,a6⟩,⟨bp,a7⟩,⟨bs,a9⟩,⟨bN,bb⟩,⟨bO,bc⟩,⟨bT,bd⟩,⟨bX,be⟩,⟨b0,bj⟩,⟨b1,bk⟩,⟨b2,bl⟩,⟨bq,a8⟩⟩:=cR A;clear y A b6 E hnb M;go_wp2;refine bodyPost_ret (ap rfl _ _ w.1.size _ _ _ _ rfl (aA D.out _ _ _ _ _ _ _ _ _ _ _) Tryz.underlying47 rfl (by kernel_rfl)) rfl ?_;rw[L.out];exact⟨rfl,K.out.trans ((ay w2 w.1.size _ _ _ _ _ _ _ _ _ _ _).below O (fun k V=>by omega))⟩
          · cases M
        |ok nk=>
          obtain⟨n,k⟩:=nk;rw[hnb] at eu;rcases eu with ⟨hk,M,rfl,y⟩ | ⟨ew,h1,q,gm,M,rfl,cw,y⟩
          · cases M
          · simp only[Except.ok.injEq,Prod.mk.injEq] at M;obtain⟨rfl,rfl⟩:=M;have fx:1+k<=C.length:=by
              have hy:Fr.nbs [2147483648] (C.drop 1)=.ok ([n],k):=(by rw[oT,hnb]);obtain⟨-,-,r,aj,ak⟩:=Fr.nbs_ok _ _ _ _ hy;have:=congrArg List.length aj;rw[List.length_append,List.length_drop,<-ak] at this;omega
            have A:=(y.block _ (aJ ah.out)).trans ah.out;have D:=xX A;have K:=xX (b5.out.trans (y.mono d6));have O:=K.out.size;obtain⟨hF,hh,f5,-,f4⟩:=cw.ints;rcases f4 with f0 | ⟨g,fo,hm,a2⟩
            · simp[toI] at f0
            injection f5 with hq1 hq2 hq3;subst hq1;subst fo;have d7:w2.cell? ⟨g,0,none⟩=some (.int .i64 (n:Nat)):=a2.2 0 (by simp[toI]);have c6:=c9.out.on y;have gb:=xX a2;have L:Hid (R=match Sch.read (C.drop (1+k)) with | .error e=>.error e | .ok s=>.ok { Fr0 with kind:=1,number:=n,cols:=s }):=by
              show _=_;rw[E.out,Fr.rdS,hnb];simp only;rw[List.drop_drop];cases Sch.read (List.drop (1+k) C) <;> rfl
            clear y b6 c9 ah b5 cw hq2 hq3 hnb E;obtain⟨z,ds⟩:∃z,z=1+k:=⟨_,rfl⟩;rw[<-ds] at fx L ⊢;clear ds;have d9:Hid (At w2 (some ⟨I,J+z,none⟩) (C.drop z)):=by
              obtain⟨hf,hE,cx,e6,e8⟩:=aL c6 (by omega);injection cx with cx;injection cx with aj ak _;subst aj ak;exact .inr ⟨I,J+z,rfl,e6,cu e8 z⟩
            have ea:=xX (nF (some ⟨I,J+z,none⟩) (C.drop z) (cap-z) (by rw[List.length_drop];omega) (by rw[List.length_drop];omega) w2 d9.out);rw[List.length_drop] at ea;have hz:¬cap=z:=(by omega);have hl:(z:Int)<=(C.length:Int):=(by omega);have cv:=xX a2.1;clear c6 d9 a2 A;go_wp2_with fail;refine ea.out.mono ?_;rintro e X hd;cases hrd:Sch.read (C.drop z) with
            |error dp=>
              rw[hrd] at hd L;obtain⟨rfl,U⟩:=hd;have hO:((dp:Int) != 0)=true:=by
                rw[bne_iff_ne];have:=Sch.read_ne hrd;omega
              have ci:Below X.1.size X (X.alloc (.cells #[.slice none 0 0] 41)):=xV;have a3:=(ci.block _ (aJ ((U.block _ (aJ D.out)).trans D.out))).trans ((U.block _ (aJ D.out)).trans D.out);have dd:=xX a3;have Y:=xX (K.out.trans ((U.mono O).trans (ci.mono (Nat.le_trans O U.size))));have d5:=Y.out.size;obtain⟨⟨bn,a6⟩,⟨bp,a7⟩,⟨bs,a9⟩,⟨bN,bb⟩,⟨bO,bc⟩,⟨bT,bd⟩,⟨bX,be⟩,⟨b0,bj⟩,⟨b1,bk⟩,⟨b2,bl⟩,⟨bq,a8⟩⟩:=cR a3;clear U ci a3 ea hrd;go_wp2;refine bodyPost_ret (ap rfl _ _ w.1.size _ _ _ _ rfl (aA dd.out _ _ _ _ _ _ _ _ _ _ _) Tryz.underlying47 rfl (by kernel_rfl)) rfl ?_;rw[L.out];exact⟨rfl,Y.out.trans ((ay _ w.1.size _ _ _ _ _ _ _ _ _ _ _).below d5 (fun k V=>by omega))⟩
            |ok sl=>
              rw[hrd] at hd L;obtain⟨u,rfl,f3,U⟩:=hd;obtain⟨v,us,hH,cy,gL,hx⟩:=f3.out;subst cy;obtain⟨sp,a0,hA,hW,-⟩:=gL.cols hx;subst hA;have ci:Below X.1.size X (X.alloc (.cells #[.slice sp sl.length a0] 41)):=xV;have a3:=(ci.block _ (aJ ((U.block _ (aJ D.out)).trans D.out))).trans ((U.block _ (aJ D.out)).trans D.out);have dd:=xX a3;have Y:=xX (K.out.trans ((U.mono O).trans (ci.mono (Nat.le_trans O U.size))));have d5:=Y.out.size;obtain⟨⟨bn,a6⟩,⟨bp,a7⟩,⟨bs,a9⟩,⟨bN,bb⟩,⟨bO,bc⟩,⟨bT,bd⟩,⟨bX,be⟩,⟨b0,bj⟩,⟨b1,bk⟩,⟨b2,bl⟩,⟨bq,a8⟩⟩:=cR a3;have hC:(X.alloc (.cells #[.slice sp sl.length a0] 41)).cell? ⟨g,0,none⟩=some (.int .i64 (n:Nat)):=by
                rw[ci.cell (p:=⟨g,0,none⟩) (Nat.lt_of_lt_of_le cv.out U.size),U.cell (p:=⟨g,0,none⟩) cv.out];exact d7
              have hc:=xX (fq f3 (ae ci (fun _=>False)) (fun _ _ _ c7=>c7));have hL:¬X.1.size=w.1.size:=(by have:=U.size;have:=aJ D.out;omega);have hY:=U.size;have eb:=xX (aJ D.out);clear U ci a3 ea hrd f3 gL d7;have ht:¬w.1.size=g:=(by omega);have hM:¬w.1.size=X.1.size:=(by omega);have hD:(X.alloc (.cells #[.slice sp sl.length a0] 41)).cell? ⟨X.1.size,0,none⟩=some (.slice sp sl.length a0):=(by rw[World.cell?_alloc_new];rfl);go_wp2_with fail;go_region_held3 (fun w'=>w'.cell? ⟨g,0,none⟩=some (.int .i64 (n:Nat))∧w'.cell? ⟨X.1.size,0,none⟩=some (.slice sp sl.length a0)) (go_keep) (fail);go_wp2;obtain⟨b7,a4⟩:∃b7,b7=(cA (X.alloc (.cells #[.slice sp sl.length a0] 41)) w.1.size (.int .i64 1) (.int .i64 (n:Nat)) (.slice sp sl.length a0) (.int .i64 0) (.int .i64 0) (.int .i64 0) (.slice none 0 0) (.int .i64 0) (.int .i64 0) (.int .i64 0) (.slice none 0 0)).drew:=⟨_,rfl⟩;have cq:Aside (fun i=>i=w.1.size) (X.alloc (.cells #[.slice sp sl.length a0] 41)) b7:=by rw[a4];exact(ay _ w.1.size (.int .i64 1) (.int .i64 (n:Nat)) (.slice sp sl.length a0) (.int .i64 0) (.int .i64 0) (.int .i64 0) (.slice none 0 0) (.int .i64 0) (.int .i64 0) (.int .i64 0) (.slice none 0 0)).drew
              have f6:b7.1[w.1.size]?=some (.cells #[.int .i64 1,.int .i64 (n:Nat),.slice sp sl.length a0,.int .i64 0,.int .i64 0,.int .i64 0,.slice none 0 0,.int .i64 0,.int .i64 0,.int .i64 0,.slice none 0 0] 47 (0,0)):=(by rw[a4,bY];exact aA dd.out (.int .i64 1) (.int .i64 (n:Nat)) (.slice sp sl.length a0) (.int .i64 0) (.int .i64 0) (.int .i64 0) (.slice none 0 0) (.int .i64 0) (.int .i64 0) (.int .i64 0) (.slice none 0 0));unfold cA at a4;rw[<-a4];clear a4;refine bodyPost_ret (ap rfl _ _ w.1.size _ _ _ _ rfl f6 Tryz.underlying47 rfl (by kernel_rfl)) rfl ?_;rw[L.out];have fi:Fr.dec l=.ok { Fr0 with kind:=1,number:=n,cols:=sl }:=(by rw[<-gf.out,L.out]);have ho:=eb.out;exact⟨_,rfl,mC (f:={ Fr0 with kind:=1,number:=n,cols:=sl }) (Fr.dec_ok fi).2.2.1 rfl (fq hc.out cq (fun k V _ c7=>by omega)) O,Y.out.trans (cq.below d5 (fun k V=>by omega))⟩
      by_cases en:cn=2
      · have c1:wr.cell? ⟨I,J,none⟩=some (.int .u8 2):=(by rw[c0,en];rfl);have E:Hid (R=Fr.rdD (C.drop 1)):=by
          show _=_;rw[b4.out,Fr.rdF,if_neg dr,if_pos en]
        obtain⟨a1,ck⟩:∃a1,a1=wr.alloc (.cells #[.int .i64 2147483648,.int .i64 1099511627776,.int .i64 1099511627776,.int .i64 65] 2):=⟨_,rfl⟩;have a5:Below wr.1.size wr a1:=(by rw[ck];exact xV);have e1:Hid (wr.alloc (.cells #[.int .i64 2147483648,.int .i64 1099511627776,.int .i64 1099511627776,.int .i64 65] 2)=a1):=(by rw[ck];exact rfl);have d0:Ints a1 wr.1.size (toI [2147483648,1099511627776,1099511627776,65]):=(by rw[ck];exact fS rfl rfl);have b6:=xX (im (some ⟨I,J,none⟩) cap C (by omega) 1 wr.1.size dv [2147483648,1099511627776,1099511627776,65] (by simp) (by simp) a1 (co.out.on a5) d0);have d1:=(a5.block _ (aJ Z.out)).trans Z.out;have ah:=xX d1;have b5:=xX (b3.out.trans (a5.mono cs));have c9:=xX (co.out.on a5);have d6:=b5.out.size;have hp:=aJ ah.out;clear c0 b4 bn bp bs bN bO bT bX b0 b1 b2 bq a6 a7 a9 bb bc bd be bj bk bl a8 ck a5 d0 d1 b3 Z co;go_wp2_with fail;rw[e1.out];refine b6.out.mono ?_;rintro e w2 (⟨dp,M,rfl,y⟩ | ⟨ew,k,q,gm,M,rfl,cw,y⟩)
        · have L:Hid (R=.error 5):=by
            show _=_;rw[E.out,Fr.rdD,M,<-iv _ M]
          have A:=(y.block _ (aJ ah.out)).trans ah.out;have D:=xX A;have K:=xX (b5.out.trans (y.mono d6));have O:=K.out.size;obtain⟨⟨bn,a6⟩,⟨bp,a7⟩,⟨bs,a9⟩,⟨bN,bb⟩,⟨bO,bc⟩,⟨bT,bd⟩,⟨bX,be⟩,⟨b0,bj⟩,⟨b1,bk⟩,⟨b2,bl⟩,⟨bq,a8⟩⟩:=cR A;clear y A b6 E M;go_wp2;refine bodyPost_ret (ap rfl _ _ w.1.size _ _ _ _ rfl (aA D.out _ _ _ _ _ _ _ _ _ _ _) Tryz.underlying47 rfl (by kernel_rfl)) rfl ?_;rw[L.out];exact⟨rfl,K.out.trans ((ay w2 w.1.size _ _ _ _ _ _ _ _ _ _ _).below O (fun k V=>by omega))⟩
        · have er:=Fr.nbs_ok _ _ _ _ M;have fy:ew.length=4:=er.1;match ew,fy with
          | [n0,n1,n2,n3],_=>
          have fx:1+k<=C.length:=by
            obtain⟨-,-,r,aj,ak⟩:=er;have:=congrArg List.length aj;rw[List.length_append,List.length_drop,<-ak] at this;omega
          have A:=(y.block _ (aJ ah.out)).trans ah.out;have D:=xX A;have K:=xX (b5.out.trans (y.mono d6));have O:=K.out.size;obtain⟨hF,hh,f5,-,f4⟩:=cw.ints;rcases f4 with f0 | ⟨g,fo,hm,a2⟩
          · simp[toI] at f0
          injection f5 with hq1 hq2 hq3;subst hq1;subst fo;have d7:w2.cell? ⟨g,0,none⟩=some (.int .i64 (n0:Nat)):=a2.2 0 (by simp[toI]);have g6:w2.cell? ⟨g,1,none⟩=some (.int .i64 (n1:Nat)):=a2.2 1 (by simp[toI]);have g7:w2.cell? ⟨g,2,none⟩=some (.int .i64 (n2:Nat)):=a2.2 2 (by simp[toI]);have g8:w2.cell? ⟨g,3,none⟩=some (.int .i64 (n3:Nat)):=a2.2 3 (by simp[toI]);have cv:=xX a2.1;have c6:=c9.out.on y;by_cases g3:n3<1
          · have L:Hid (R=.error 5):=by
              show _=_;rw[E.out,Fr.rdD,M];simp only[List.getD_cons_zero,List.getD_cons_succ];rw[if_pos g3]
            have hs:decide ((n3:Int)<1)=true:=decide_eq_true (by omega);obtain⟨⟨bn,a6⟩,⟨bp,a7⟩,⟨bs,a9⟩,⟨bN,bb⟩,⟨bO,bc⟩,⟨bT,bd⟩,⟨bX,be⟩,⟨b0,bj⟩,⟨b1,bk⟩,⟨b2,bl⟩,⟨bq,a8⟩⟩:=cR A;clear y A b6 E M er fy cw a2 c6;go_wp2;refine bodyPost_ret (ap rfl _ _ w.1.size _ _ _ _ rfl (aA D.out _ _ _ _ _ _ _ _ _ _ _) Tryz.underlying47 rfl (by kernel_rfl)) rfl ?_;rw[L.out];exact⟨rfl,K.out.trans ((ay w2 w.1.size _ _ _ _ _ _ _ _ _ _ _).below O (fun k V=>by omega))⟩
          · have L:Hid (R=.ok { Fr0 with kind:=2,number:=(n0:Nat),seq:=(n1:Nat),first:=(n2:Nat),rows:=(n3:Nat),block:=C.drop (1+k) }):=by
              show _=_;rw[E.out,Fr.rdD,M];simp only[List.getD_cons_zero,List.getD_cons_succ];rw[if_neg g3,List.drop_drop]
            have hs:decide ((n3:Int)<1)=false:=decide_eq_false (by omega);clear y b6 c9 ah b5 cw hq2 hq3 M er fy E;obtain⟨z,ds⟩:∃z,z=1+k:=⟨_,rfl⟩;rw[<-ds] at fx L ⊢;clear ds;have d9:Hid (At w2 (some ⟨I,J+z,none⟩) (C.drop z)):=by
              obtain⟨hf,hE,cx,e6,e8⟩:=aL c6 (by omega);injection cx with cx;injection cx with aj ak _;subst aj ak;exact .inr ⟨I,J+z,rfl,e6,cu e8 z⟩
            have hz:¬cap=z:=(by omega);have hl:(z:Int)<=(C.length:Int):=(by omega);have eC:Hid ((C.drop z).length=C.length-z):=(by show _=_;rw[List.length_drop]);have eb:=xX (aJ D.out);have ht:¬w.1.size=g:=(by omega);clear c6 a2 A
            go_wp2_with (first|(at_builtin;refine aw (B:=w2.1.size) (xs:=[]) (v:=.slice none 0 0) (l:=C.drop z) (aI _ _) d9.out (by rw[eC.out];simp;omega) xZ rfl rfl rfl rfl (by rw[eC.out];rfl) ?_;intro ct em c5 W he d3 gz _;have Y:=xX (gz.below (B:=w2.1.size) xZ (fun k _ V=>by cases V));have f9:=xX d3;have a3:=(Y.out.block _ eb.out).trans D.out;have dd:=xX a3;obtain⟨⟨bn,a6⟩,⟨bp,a7⟩,⟨bs,a9⟩,⟨bN,bb⟩,⟨bO,bc⟩,⟨bT,bd⟩,⟨bX,be⟩,⟨b0,bj⟩,⟨b1,bk⟩,⟨b2,bl⟩,⟨bq,a8⟩⟩:=cR a3;have hC:W.cell? ⟨g,0,none⟩=some (.int .i64 (n0:Nat)):=(Y.out.cell (p:=⟨g,0,none⟩) cv.out).trans d7;have hD:W.cell? ⟨g,1,none⟩=some (.int .i64 (n1:Nat)):=(Y.out.cell (p:=⟨g,1,none⟩) cv.out).trans g6;have hZ:W.cell? ⟨g,2,none⟩=some (.int .i64 (n2:Nat)):=(Y.out.cell (p:=⟨g,2,none⟩) cv.out).trans g7;have h0:W.cell? ⟨g,3,none⟩=some (.int .i64 (n3:Nat)):=(Y.out.cell (p:=⟨g,3,none⟩) cv.out).trans g8;have d5:=Y.out.size;clear d3 gz a3 d7 g6 g7 g8)|fail)
            go_region_held3 (fun w'=>w'.cell? ⟨g,0,none⟩=some (.int .i64 (n0:Nat))∧w'.cell? ⟨g,1,none⟩=some (.int .i64 (n1:Nat))∧w'.cell? ⟨g,2,none⟩=some (.int .i64 (n2:Nat))∧w'.cell? ⟨g,3,none⟩=some (.int .i64 (n3:Nat))) (go_keep) (fail);go_wp2;have g5:ct=C.drop z:=he.out;obtain⟨b7,a4⟩:∃b7,b7=(cA W w.1.size (.int .i64 2) (.int .i64 (n0:Nat)) (.slice none 0 0) (.int .i64 (n1:Nat)) (.int .i64 (n2:Nat)) (.int .i64 (n3:Nat)) (.slice em ct.length c5) (.int .i64 0) (.int .i64 0) (.int .i64 0) (.slice none 0 0)).drew:=⟨_,rfl⟩;have cq:Aside (fun i=>i=w.1.size) W b7:=(by rw[a4];exact(ay _ w.1.size (.int .i64 2) (.int .i64 (n0:Nat)) (.slice none 0 0) (.int .i64 (n1:Nat)) (.int .i64 (n2:Nat)) (.int .i64 (n3:Nat)) (.slice em ct.length c5) (.int .i64 0) (.int .i64 0) (.int .i64 0) (.slice none 0 0)).drew);have f6:b7.1[w.1.size]?=some (.cells #[.int .i64 2,.int .i64 (n0:Nat),.slice none 0 0,.int .i64 (n1:Nat),.int .i64 (n2:Nat),.int .i64 (n3:Nat),.slice em ct.length c5,.int .i64 0,.int .i64 0,.int .i64 0,.slice none 0 0] 47 (0,0)):=(by rw[a4,bY];exact aA dd.out (.int .i64 2) (.int .i64 (n0:Nat)) (.slice none 0 0) (.int .i64 (n1:Nat)) (.int .i64 (n2:Nat)) (.int .i64 (n3:Nat)) (.slice em ct.length c5) (.int .i64 0) (.int .i64 0) (.int .i64 0) (.slice none 0 0));unfold cA at a4;rw[<-a4];clear a4;refine bodyPost_ret (ap rfl _ _ w.1.size _ _ _ _ rfl f6 Tryz.underlying47 rfl (by kernel_rfl)) rfl ?_;have e4:=L.out;rw[<-g5] at e4;rw[e4];have fi:Fr.dec l=.ok { Fr0 with kind:=2,number:=(n0:Nat),seq:=(n1:Nat),first:=(n2:Nat),rows:=(n3:Nat),block:=ct }:=by rw[<-gf.out,e4]
            have ho:=eb.out;have hB:ct.length<=2200:=(by rw[g5,eC.out];omega);exact⟨_,rfl,mD (f:={ Fr0 with kind:=2,number:=(n0:Nat),seq:=(n1:Nat),first:=(n2:Nat),rows:=(n3:Nat),block:=ct }) (Fr.dec_ok fi).2.2.1 rfl (f9.out.aside cq (fun k V c7=>by have:=(f9.out.lt k V).1;omega)) hB O,K.out.trans ((Y.out.mono O).trans (cq.below (Nat.le_trans O d5) (fun k V=>by omega)))⟩
      by_cases e2:cn=3
      · have c1:wr.cell? ⟨I,J,none⟩=some (.int .u8 3):=(by rw[c0,e2];rfl);have eL:=xX (nD (some ⟨I,J,none⟩) cap C hn dv wr co.out);have E:Hid (R=Fr.rdI (C.drop 1)):=by
          show _=_;rw[b4.out,Fr.rdF,if_neg dr,if_neg en,if_pos e2]
        clear c0 b4 bn bp bs bN bO bT bX b0 b1 b2 bq a6 a7 a9 bb bc bd be bj bk bl a8;go_wp2_with fail;refine eL.out.mono ?_;rintro e w2 hd;cases hrd:Fr.rdI (C.drop 1) with
        |error dp=>
          rw[hrd] at hd;obtain⟨rfl,y⟩:=hd;have L:Hid (R=.error dp):=(by show _=_;rw[E.out,hrd]);have A:=(y.block _ (aJ Z.out)).trans Z.out;have D:=xX A;have K:=xX (b3.out.trans (y.mono cs));have O:=K.out.size;obtain⟨⟨bn,a6⟩,⟨bp,a7⟩,⟨bs,a9⟩,⟨bN,bb⟩,⟨bO,bc⟩,⟨bT,bd⟩,⟨bX,be⟩,⟨b0,bj⟩,⟨b1,bk⟩,⟨b2,bl⟩,⟨bq,a8⟩⟩:=cR A;clear y A eL E hrd;go_wp2;refine bodyPost_ret (ap rfl _ _ w.1.size _ _ _ _ rfl (aA D.out _ _ _ _ _ _ _ _ _ _ _) Tryz.underlying47 rfl (by kernel_rfl)) rfl ?_;rw[L.out];exact⟨rfl,K.out.trans ((ay w2 w.1.size _ _ _ _ _ _ _ _ _ _ _).below O (fun k V=>by omega))⟩
        |ok f=>
          rw[hrd] at hd;obtain⟨u,rfl,f2,y⟩:=hd;have L:Hid (R=.ok f):=(by show _=_;rw[E.out,hrd]);have A:=(y.block _ (aJ Z.out)).trans Z.out;have D:=xX A;have K:=xX (b3.out.trans (y.mono cs));have O:=K.out.size;have ha:=xX (aJ Z.out);obtain⟨⟨bn,a6⟩,⟨bp,a7⟩,⟨bs,a9⟩,⟨bN,bb⟩,⟨bO,bc⟩,⟨bT,bd⟩,⟨bX,be⟩,⟨b0,bj⟩,⟨b1,bk⟩,⟨b2,bl⟩,⟨bq,a8⟩⟩:=cR A;have gd:=xX f2;obtain⟨sp,a0,hg,c5,hj,hi,cy,-⟩:=f2.out;subst cy;clear y A eL E hrd f2;unfold aB at gd ⊢;go_wp2;refine bodyPost_ret (ap rfl _ _ w.1.size _ _ _ _ rfl (aA D.out _ _ _ _ _ _ _ _ _ _ _) Tryz.underlying47 rfl (by kernel_rfl)) rfl ?_;rw[L.out];have hN:=ha.out;have cq:=ay w2 w.1.size (.int .i64 f.kind) (.int .i64 f.number) (.slice sp f.cols.length a0) (.int .i64 f.seq) (.int .i64 f.first) (.int .i64 f.rows) (.slice hg f.block.length c5) (.int .i64 f.index.at_) (.int .i64 f.index.frames) (.int .i64 f.index.rows) (.slice hj f.index.entries.length hi);exact⟨_,rfl,(gd.out.aside cq (fun k V _ c7=>by omega)).low cs,K.out.trans (cq.below O (fun k V=>by omega))⟩
      · have hI:((cn:Int)==1)=false:=(by rw[beq_eq_false_iff_ne];omega);have hJ:((cn:Int)==2)=false:=(by rw[beq_eq_false_iff_ne];omega);have hK:((cn:Int)==3)=false:=(by rw[beq_eq_false_iff_ne];omega);have E:Hid (R=.error 60):=by
          show _=_;rw[b4.out,Fr.rdF,if_neg dr,if_neg en,if_neg e2]
        clear b4;go_wp2;refine bodyPost_ret (ap rfl _ _ w.1.size _ _ _ _ rfl (aA Z.out _ _ _ _ _ _ _ _ _ _ _) Tryz.underlying47 rfl (by kernel_rfl)) rfl ?_;rw[E.out];exact⟨rfl,b3.out.trans ((ay wr w.1.size _ _ _ _ _ _ _ _ _ _ _).below cs (fun k V=>by omega))⟩
end
section
open Go.RowKit
theorem lZ(p:OA)(c:Nat)(l:L8)(y:2200<l.length)(z:l.length<=140737488351232)(w:World):
  Calls Tryz.prog 62 #[.slice p l.length c] w (jQ w (.error 2)):=by
 have A:(2200:Int)<(l.length:Int):=by omega
 go_enter Tryz.func62,Tryz.ntmps62;go_wp2;refine bodyPost_ret (ap rfl _ _ w.1.size _ _ _ _ rfl (ag w _) Tryz.underlying47 rfl (by kernel_rfl)) rfl ?_;exact⟨rfl,xV⟩
theorem fK(p:OA)(c:Nat)(l:L8)(a0:l.length<=2200)(y:Nat)(body:L8)(Z:Cob.un l=(y,body))(w:World)(h:At w p l)(D:Nat)(W:D=if y≠0 then y else 30)(K:y=0->body.length<5):
  Calls Tryz.prog 62 #[.slice p l.length c] w (jQ w (.error D)):=by
 obtain⟨w0,z⟩:∃w0,w0=w.alloc (.cells #[.int .i64 0,.int .i64 0,.slice none 0 0,.int .i64 0,.int .i64 0,.int .i64 0,.slice none 0 0,.int .i64 0,.int .i64 0,.int .i64 0,.slice none 0 0] 47):=⟨_,rfl⟩;have a3:w0.1.size=w.1.size+1:=by rw[z];simp
 have E:Hid (Below w.1.size w w0):=by rw[z];exact xV
 have V:w0.1[w.1.size]?=some (.cells #[.int .i64 0,.int .i64 0,.slice none 0 0,.int .i64 0,.int .i64 0,.int .i64 0,.slice none 0 0,.int .i64 0,.int .i64 0,.int .i64 0,.slice none 0 0] 47 (0,0)):=by rw[z];exact ag w _
 have U:Hid (w.alloc (.cells #[.int .i64 0,.int .i64 0,.slice none 0 0,.int .i64 0,.int .i64 0,.int .i64 0,.slice none 0 0,.int .i64 0,.int .i64 0,.int .i64 0,.slice none 0 0] 47)=w0):=by rw[z];exact rfl
 have A:=xX (ey p c l (by omega) w0 (h.on E.out));rw[Z] at A;simp only at A;have a2:¬(2200:Int)<(l.length:Int):=by omega
 have R:=xX W;clear z h Z W;go_enter Tryz.func62,Tryz.ntmps62;go_wp2_with fail;rw[U.out];refine A.out.mono ?_;rintro e w1 ⟨v,rfl,Y,M⟩;obtain⟨q,cap,rfl,-,-⟩:=Y.at;have I:=xX (E.out.trans (M.mono E.out.size));have L:=(M.block _ (by omega)).trans V;have O:=xX L;have ah:=I.out.size;obtain⟨⟨bk,a4⟩,⟨bl,a5⟩,⟨bp,a7⟩,⟨bq,a8⟩,⟨bs,a9⟩,⟨bN,bb⟩,⟨bO,bc⟩,⟨bT,bd⟩,⟨bX,be⟩,⟨b0,bj⟩,⟨bn,a6⟩⟩:=cR L;clear Y M V L A U;by_cases X:y=0
 ·subst X;have a1:(body.length:Int)<5:=by have:=K rfl;omega
  have J:Hid (D=30):=by show _=_;rw[R.out];simp
  clear K;go_wp2;refine bodyPost_ret (ap rfl _ _ w.1.size _ _ _ _ rfl (aA O.out _ _ _ _ _ _ _ _ _ _ _) Tryz.underlying47 rfl (by kernel_rfl)) rfl ?_;rw[J.out];exact⟨rfl,I.out.trans ((ay w1 w.1.size _ _ _ _ _ _ _ _ _ _ _).below ah (fun k aj=>by omega))⟩
 ·have ak:((y:Int) != 0)=true:=by rw[bne_iff_ne];omega
  have J:Hid (D=y):=by show _=_;rw[R.out,if_pos X]
  clear K;go_wp2;refine bodyPost_ret (ap rfl _ _ w.1.size _ _ _ _ rfl (aA O.out _ _ _ _ _ _ _ _ _ _ _) Tryz.underlying47 rfl (by kernel_rfl)) rfl ?_;rw[J.out];exact⟨rfl,I.out.trans ((ay w1 w.1.size _ _ _ _ _ _ _ _ _ _ _).below ah (fun k aj=>by omega))⟩
theorem lY(p:OA)(c:Nat)(l:L8)(R:l.length<=140737488351232)(w:World)(h:At w p l):
  Calls Tryz.prog 62 #[.slice p l.length c] w (jQ w (Fr.dec l)):=by
 by_cases K:2200<l.length
 ·have e:Fr.dec l=.error 2:=by unfold Fr.dec Fr.open_;rw[if_pos K]
  rw[e];exact lZ p c l K R w
 ·obtain⟨y,body,z⟩:∃y body,Cob.un l=(y,body):=⟨_,_,rfl⟩;by_cases J:y=0
  ·subst J;by_cases L:body.length<5
   ·have e:Fr.dec l=.error 30:=(by unfold Fr.dec Fr.open_;rw[if_neg K,z];simp[L]);rw[e];exact fK p c l (by omega) 0 body z w h 30 (by simp) (fun _=>L)
   ·obtain⟨C,A,D,E,I,hb⟩:∃C A D E I,body=C++[A,D,E,I]:=by
     have hd:(body.drop (body.length-4)).length=4:=(by rw[List.length_drop];omega);match hx:body.drop (body.length-4),hd with
     | [A,D,E,I],_=>exact⟨body.take (body.length-4),A,D,E,I,by rw[<-hx,List.take_append_drop]⟩
    subst hb;have M:=Cob.un_length l;rw[z] at M;simp only[List.length_append,List.length_cons,List.length_nil] at M L;exact nG p c l (by omega) C A D E I z (by omega) (by omega) w h
  ·have e:Fr.dec l=.error y:=(by unfold Fr.dec Fr.open_;rw[if_neg K,z];simp[J]);rw[e];exact fK p c l (by omega) y body z w h y (by rw[if_pos J]) (fun O=>absurd O J)
end
end Go.Proofs.YtdkammppnkhhoaaGreatDoor
