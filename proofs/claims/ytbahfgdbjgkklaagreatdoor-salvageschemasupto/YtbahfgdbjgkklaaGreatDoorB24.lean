import Derived.Test.YtbahfgdbjgkklaaGreatDoorB23
set_option maxRecDepth 100000
set_option maxHeartbeats 4000000
namespace Go.Proofs.YtbahfgdbjgkklaaGreatDoor
variable{A R X a b c:Nat}{w:World}{l:L8}{v:Value}{es:List Ent}
open Go.RowKit
def qb(a b c:Nat)(es:List Ent):Fr:={ Fr0 with kind:=3,index:=⟨a,b,c,es⟩ }
theorem yh(l:L8):Fr.rdI l=ar (Fr.nb 1099511627776 l) fun a k=>ar (Fr.nb 1099511627776 (l.drop k)) fun b o=>ar (Fr.nb 1099511627776 ((l.drop k).drop o)) fun c k3=>ar (Fr.nb 65 (((l.drop k).drop o).drop k3)) fun m k4=>ar (Fr.rdE m ((((l.drop k).drop o).drop k3).drop k4)) fun es j=>if (((((l.drop k).drop o).drop k3).drop k4).drop j).length=0 then .ok (qb a b c es) else .error 5:=by
 have D:∀{L:Nat} {l:L8} {n k:Nat},Fr.nb L l=.ok (n,k)->k<=l.length:=by
  intro L l n k h;obtain⟨_,r,I,J⟩:=Fr.nb_ok h;rw[I,J,List.length_append];omega
 unfold Fr.rdI;rw[zn];cases I:Fr.nb 1099511627776 l with
 |error e=>rfl
 |ok p=>
  obtain⟨x,k⟩:=p;dsimp only[ar];cases J:Fr.nb 1099511627776 (l.drop k) with
  |error e=>rfl
  |ok p=>
   obtain⟨y,o⟩:=p;dsimp only[ar];cases h3:Fr.nb 1099511627776 ((l.drop k).drop o) with
   |error e=>rfl
   |ok p=>
    obtain⟨z,k3⟩:=p;dsimp only[ar];cases h4:Fr.nb 65 (((l.drop k).drop o).drop k3) with
    |error e=>rfl
    |ok p=>
     obtain⟨t,k4⟩:=p;dsimp only[ar];rw[xT];simp only[List.getD_cons_zero,List.getD_cons_succ];cases h5:Fr.rdE t ((((l.drop k).drop o).drop k3).drop k4) with
     |error e=>rfl
     |ok p=>
      obtain⟨es,j⟩:=p;dsimp only;have M:=D I;have O:=D J;have Q:=D h3;have S:=D h4;obtain⟨_,_,Z,U,Y⟩:=Fr.rdE_ok _ _ _ _ h5;have V:=congrArg List.length U;simp only[List.length_append,List.length_drop] at M O Q S V;have K:(k+(o+(k3+(k4+0)))+j=l.length)↔((((((l.drop k).drop o).drop k3).drop k4).drop j).length=0):=by
       simp only[List.length_drop];omega
      by_cases E:k+(o+(k3+(k4+0)))+j=l.length
      ·rw[if_pos E,if_pos (K.1 E)];rfl
      ·rw[if_neg E,if_neg (fun W=>E (K.2 W))]
def shE(es:List Ent)(J:Nat):Except Nat (List Ent×Nat)->Except Nat (List Ent×Nat)
 |.error e=>.error e
 |.ok (fs,j)=>.ok (es++fs,J+j)
theorem wH(a b:List Ent)(i j:Nat)(r:Except Nat (List Ent×Nat)):shE a i (shE b j r)=shE (a++b) (i+j) r:=by
 cases r with
 |error e=>rfl
 |ok p=>simp[shE,Nat.add_assoc]
theorem nQ(m:Nat)(l:L8):Fr.rdE (m+1) l=ar (Fr.nb 1099511627776 l) fun a k=>ar (Fr.nb 1099511627776 (l.drop k)) fun b o=>ar (Fr.nb 1099511627776 ((l.drop k).drop o)) fun c y=>shE [⟨a,b,c⟩] (k+(o+y)) (Fr.rdE m (((l.drop k).drop o).drop y)):=by
 rw[Fr.rdE];unfold Fr.nbs;cases Fr.nb 1099511627776 l with
 |error e=>rfl
 |ok p=>
  obtain⟨x,k⟩:=p;dsimp only[ar];unfold Fr.nbs;cases Fr.nb 1099511627776 (l.drop k) with
  |error e=>rfl
  |ok p=>
   obtain⟨z,o⟩:=p;dsimp only[ar];unfold Fr.nbs;cases Fr.nb 1099511627776 ((l.drop k).drop o) with
   |error e=>rfl
   |ok p=>
    obtain⟨D,y⟩:=p;dsimp only[ar];unfold Fr.nbs;dsimp only;rw[show l.drop (k+(o+(y+0)))=((l.drop k).drop o).drop y by rw[List.drop_drop,List.drop_drop,Nat.add_zero]];cases Fr.rdE m (((l.drop k).drop o).drop y) with
    |error e=>rfl
    |ok q=>rfl
theorem RdB.undrew{D:Type}{w w':World}{A R:Nat}{l:L8}{r:Except Nat (D×Nat)}{V:D->Value->World->Prop}{e:Ending}(h:RdB w.drew A R l r V e w'):RdB w A R l r V e w':=by
 cases r with
 |error k=>
  obtain⟨z,o⟩:=h.bad;exact⟨z,⟨o.os,o.tape,o.output,o.size,o.block⟩⟩
 |ok aj=>
  obtain⟨a,j⟩:=aj;obtain⟨v,z,o,E,y⟩:=h.good;exact⟨v,z,o,E,⟨y.os,y.tape,y.output,y.size,y.block⟩⟩
structure jf(w wr:World)(A R X:Nat)(a b c:Nat)(v:Value)(es:List Ent)(l:L8):Prop where
 bO:wr.1[w.1.size]?=some (.cells #[.int .i64 0,.int .i64 0,.int .i64 0,.slice none 0 0] 169 (0,0))
 bX:wr.1[X]?=some (.cells #[.int .i64 a,.int .i64 b,.int .i64 c,v] 65 (0,0))
 own:dO wr (X+1) v es
 rd:cH wr A R l
 aside:Aside (fun i=>i=R) w wr
 size:X+1<=wr.1.size
 low:w.1.size<X∧R<w.1.size
theorem jf.step{wr y:World}{z:L8}(h:jf w wr A R X a b c v es l)(o:Aside (fun i=>i=R) wr y)(I:cH y A R z):jf w y A R X a b c v es z:=by
 have E:=h.low;have J:=h.size;exact⟨(o.block _ (by omega) (by omega)).trans h.bO,(o.block _ (by omega) (by omega)).trans h.bX,h.own.aside o (fun k D K=>by have:=(h.own.lt k D).1;omega),I,h.aside.trans o (fun _ _ h=>h),Nat.le_trans J o.size,E⟩
theorem jf.more{D w4:World}{g cap:Nat}{x:Ent}{K:Obj}(h:jf w D A R X a b c v es l)(J:dO w4 (X+1) (.slice (some ⟨g,0,none⟩) (es.length+1) cap) (es++[x]))(z:(D.alloc K).grownBy w4 v.ownBlock):
  w4.1[X]?=some (.cells #[.int .i64 a,.int .i64 b,.int .i64 c,v] 65 (0,0))∧jf w (w4.setCell ⟨X,3,none⟩ (.slice (some ⟨g,0,none⟩) (es.length+1) cap)) A R X a b c (.slice (some ⟨g,0,none⟩) (es.length+1) cap) (es++[x]) l:=by
 have O:=h.low;have U:=h.size;have V:(D.alloc K).1.size=D.1.size+1:=by simp
 have S:=z.size;have E:∀k,k<=X->w4.1[k]?=D.1[k]?:=fun k y=>by
  rw[z.block k (by omega) (fun L=>by have:=(h.own.lt k L.symm).1;omega)];exact aG _ _ (by omega)
 have I:=(E X gQx).trans h.bX;have o:Aside (fun i=>i=X) w4 (w4.setCell ⟨X,3,none⟩ (.slice (some ⟨g,0,none⟩) (es.length+1) cap)):=ag _ _ _ _;refine⟨I,?_,?_,?_,?_,?_,?_,O⟩
 ·rw[o.block _ (by omega) (by omega),E _ (by omega)];exact h.bO
 ·have:=ai I 3 (.slice (some ⟨g,0,none⟩) (es.length+1) cap);exact this
 ·exact J.aside o (fun k y Q=>by have:=(J.lt k y).1;omega)
 ·exact(h.rd.keep (w':=w4) (fun k y=>E k (by omega)) (by omega)).aside o (fun k y=>by omega)
 ·refine⟨?_,?_,?_,?_,fun k y M=>?_⟩
  ·exact z.os.trans h.aside.os
  ·exact z.tape.trans h.aside.tape
  ·exact z.output.trans h.aside.output
  ·have:=h.aside.size;have:=o.size;omega
  ·have:=h.aside.size;rw[o.block _ (by omega) (by omega),E _ (by omega)];exact h.aside.block k y M
 ·have:=o.size;omega
theorem mC(l:L8)(A R:Nat)(w:World)(h:cH w A R l):Calls Tryz.prog 99 #[.pointer (some ⟨R,0,none⟩)] w (gH w R (Fr.rdI l) (uQ w.1.size)):=by
  obtain⟨w0,b4⟩:∃w0,w0=w.alloc (.cells #[.int .i64 0,.int .i64 0,.int .i64 0,.slice none 0 0] 169):=⟨_,rfl⟩;have f4:w0.1.size=w.1.size+1:=by rw[b4];simp
  have db:Hid (Below w.1.size w w0):=by rw[b4];exact gQy
  have dc:Hid (w0.1[w.1.size]?=some (.cells #[.int .i64 0,.int .i64 0,.int .i64 0,.slice none 0 0] 169 (0,0))):=by show _=_;rw[b4];exact am w _
  have eh:Hid (w.alloc (.cells #[.int .i64 0,.int .i64 0,.int .i64 0,.slice none 0 0] 169)=w0):=by rw[b4];exact rfl
  have dk:=gQq (h.on db.out);have ew:=h.lt;obtain⟨r,c7⟩:∃r,r=Fr.rdI l:=⟨_,rfl⟩;have bT:=gQq (c7.trans (yh l));rw[<-c7];have co:Hid (Aside (fun i=>i=R) w w0):=al db.out _;obtain⟨b1,ds⟩:∃b1,b1=l:=⟨_,rfl⟩;rw[<-ds] at dk bT;clear c7 h b4 ds;go_enter Tryz.func99,Tryz.ntmps99;have HN:=gQq (fJ b1 A R w0 dk.out);obtain⟨e2,d4⟩:∃m,m=Fr.nb 1099511627776 b1:=⟨_,rfl⟩;rw[<-d4] at HN bT;clear d4;go_wp2_with fail;rw[eh.out];refine HN.out.mono ?_;intro e w1 y;cases e2 with
  |error er=>
    have aj:Hid (r=.error er):=bT.out;obtain⟨J,o⟩:=y.bad;subst J;have a4:=gQq (co.out.trans o (fun _ _ h=>h));clear y o HN;go_wp2;rw[aj.out];exact⟨rfl,rfl,a4.out⟩
  |ok nk=>
    obtain⟨a,e0⟩:=nk;obtain⟨v,J,z,D,o⟩:=y.good
    replace z:v=.int .i64 (a:Nat):=z
    subst z;subst J;have a5:=gQq (co.out.trans o (fun _ _ h=>h));have dd:Hid (w1.1[w.1.size]?=some (.cells #[.int .i64 0,.int .i64 0,.int .i64 0,.slice none 0 0] 169 (0,0))):=(o.block _ (by omega) (by omega)).trans dc.out;have f5:w.1.size+1<=w1.1.size:=(by have:=o.size;omega);have bb:=gQq (show r=_ from bT.out);dsimp only[ar] at bb;obtain⟨ct,dv⟩:∃L,L=b1.drop e0:=⟨_,rfl⟩;rw[<-dv] at bb D;have ee:=gQq D;clear y o D HN dv bT co dc;have HN:=gQq (fJ ct A R w1 ee.out);obtain⟨e3,d5⟩:∃m,m=Fr.nb 1099511627776 ct:=⟨_,rfl⟩;rw[<-d5] at HN bb;clear d5;go_wp2_with fail;refine HN.out.mono ?_;intro e E y;cases e3 with
    |error er=>
      have aj:Hid (r=.error er):=bb.out;obtain⟨J,o⟩:=y.bad;subst J;have a4:=gQq (a5.out.trans o (fun _ _ h=>h));clear y o HN;go_wp2;rw[aj.out];exact⟨rfl,rfl,a4.out⟩
    |ok nk=>
      obtain⟨b,e1⟩:=nk;obtain⟨v,J,z,D,o⟩:=y.good
      replace z:v=.int .i64 (b:Nat):=z
      subst z;subst J;have bn:=gQq (a5.out.trans o (fun _ _ h=>h));have de:Hid (E.1[w.1.size]?=some (.cells #[.int .i64 0,.int .i64 0,.int .i64 0,.slice none 0 0] 169 (0,0))):=(o.block _ (by omega) (by omega)).trans dd.out;have f6:w.1.size+1<=E.1.size:=(by have:=o.size;omega);have bc:=gQq (show r=_ from bb.out);dsimp only[ar] at bc;obtain⟨cu,d0⟩:∃L,L=ct.drop e1:=⟨_,rfl⟩;rw[<-d0] at bc D;have ef:=gQq D;clear y o D HN d0 bb a5 dd;have HN:=gQq (fJ cu A R E ef.out);obtain⟨e4,d6⟩:∃m,m=Fr.nb 1099511627776 cu:=⟨_,rfl⟩;rw[<-d6] at HN bc;clear d6;go_wp2_with fail;refine HN.out.mono ?_;intro e U y;cases e4 with
      |error er=>
        have aj:Hid (r=.error er):=bc.out;obtain⟨J,o⟩:=y.bad;subst J;have a4:=gQq (bn.out.trans o (fun _ _ h=>h));clear y o HN;go_wp2;rw[aj.out];exact⟨rfl,rfl,a4.out⟩
      |ok nk=>
        obtain⟨c,S⟩:=nk;obtain⟨v,J,z,D,o⟩:=y.good
        replace z:v=.int .i64 (c:Nat):=z
        subst z;subst J;have da:=gQq (bn.out.trans o (fun _ _ h=>h));have df:Hid (U.1[w.1.size]?=some (.cells #[.int .i64 0,.int .i64 0,.int .i64 0,.slice none 0 0] 169 (0,0))):=(o.block _ (by omega) (by omega)).trans de.out;have f8:w.1.size+1<=U.1.size:=(by have:=o.size;omega);have be:=gQq (show r=_ from bc.out);dsimp only[ar] at be;obtain⟨cd,d1⟩:∃L,L=cu.drop S:=⟨_,rfl⟩;rw[<-d1] at be D;have dn:=gQq D;clear y o D HN d1 bc bn de;obtain⟨bi,b6⟩:∃bi,bi=U.alloc (.cells #[.int .i64 a,.int .i64 b,.int .i64 c,.slice none 0 0] 65):=⟨_,rfl⟩;have dp:Hid (U.alloc (.cells #[.int .i64 a,.int .i64 b,.int .i64 c,.slice none 0 0] 65)=bi):=(by rw[b6];exact rfl);have bs:Hid (jf w bi A R U.1.size a b c (.slice none 0 0) [] cd):=by
          have hb:Below U.1.size U bi:=(by rw[b6];exact gQy);refine⟨(hb.block _ (by omega)).trans df.out,by rw[b6];exact am U _,hY _ _,dn.out.on hb,da.out.trans (al hb (fun i=>i=R)) (fun _ _ h=>h),by rw[b6];simp,by omega,ew⟩
        obtain⟨X,cw⟩:∃X,X=U.1.size:=⟨_,rfl⟩;rw[<-cw] at bs;clear b6;have HN:=gQq (gU 65 (by omega) cd A R bi bs.out.rd);obtain⟨e5,c6⟩:∃m,m=Fr.nb 65 cd:=⟨_,rfl⟩;rw[<-c6] at HN be;have dh:=gQq c6;clear c6;go_wp2_with fail;rw[dp.out];refine HN.out.mono ?_;intro e w4 y;cases e5 with
        |error er=>
          have aj:Hid (r=.error er):=be.out;obtain⟨J,o⟩:=y.bad;subst J;have a4:=gQq (bs.out.aside.trans o (fun _ _ h=>h));clear y o HN;go_wp2;rw[aj.out];exact⟨rfl,rfl,a4.out⟩
        |ok nk=>
          obtain⟨m,O⟩:=nk;obtain⟨v,J,z,D,o⟩:=y.good
          replace z:v=.int .i64 (m:Nat):=z
          subst z;subst J;have f0:m<65:=(Fr.nb_ok dh.out.symm).1;obtain⟨M,cv⟩:∃L,L=cd.drop O:=⟨_,rfl⟩;rw[<-cv] at D;have ea:=gQq (bs.out.step o D);have dj:Hid (r=ar (Fr.rdE m M) fun es j=>if (M.drop j).length=0 then .ok (qb a b c es) else .error 5):=by
            show _=_;rw[cv];exact be.out
          clear y o D HN cv be da df bs dp dh dn;go_wp2_with fail;rw[<-cw];clear cw;go_loopw [13] (fun c8 wr=>∃(es:List Ent) (Q:Nat) (q:OA) (d:Nat),es.length<=m∧c8=.int .i64 es.length∧Hid (jf w wr A R X a b c (.slice q es.length d) es (M.drop Q)∧Fr.rdE m M=shE es Q (Fr.rdE (m-es.length) (M.drop Q)))) (fun c8 _=>m-(intOf c8).toNat);case atStart=>
            refine⟨[],0,none,0,by simp,rfl,ea.out,?_⟩;rw[List.length_nil,Nat.sub_zero,List.drop_zero];cases Fr.rdE m M with
            |error e=>rfl
            |ok q=>simp[shE]
          case round=>
            obtain⟨es,Q,q,d,fg,rfl,b9⟩:=hrel;have K:=gQq b9.out.1;have br:=gQq b9.out.2;have cx:=aa K.out.bX 3
            replace cx:wr.cell? ⟨X,3,none⟩=some (.slice q es.length d):=cx
            have ez:=ac K.out.bX 3;have fs:=K.out.low;have f3:=K.out.size;have fc:∀I,(wr.alloc I).cell? ⟨X,3,none⟩=some (.slice q es.length d):=fun I=>ae (gQz.alloc gQx I) cx;have fe:∀I,(wr.alloc I).frozen? ⟨X,3,none⟩=false:=fun I=>(((Below.refl wr.1.size wr).alloc gQx I).frozen (p:=⟨X,3,none⟩) (by show X<_;omega)).trans ez;by_cases fx:es.length<m
            · have fy:(es.length:Int)<(m:Int):=(by omega);obtain⟨V,b3⟩:∃V,V=M.drop Q:=⟨_,rfl⟩;have cb:Hid (r=ar (shE es Q (ar (Fr.nb 1099511627776 V) fun a k=>ar (Fr.nb 1099511627776 (V.drop k)) fun b S=>ar (Fr.nb 1099511627776 ((V.drop k).drop S)) fun c O=>shE [⟨a,b,c⟩] (k+(S+O)) (Fr.rdE (m-(es.length+1)) (((V.drop k).drop S).drop O)))) fun es j=>if (M.drop j).length=0 then .ok (qb a b c es) else .error 5):=by
                show _=_;rw[dj.out,br.out,show m-es.length=(m-(es.length+1))+1 by omega,nQ,b3]
              have cp:Hid (Fr.rdE m M=shE es Q (ar (Fr.nb 1099511627776 V) fun a k=>ar (Fr.nb 1099511627776 (V.drop k)) fun b S=>ar (Fr.nb 1099511627776 ((V.drop k).drop S)) fun c O=>shE [⟨a,b,c⟩] (k+(S+O)) (Fr.rdE (m-(es.length+1)) (((V.drop k).drop S).drop O)))):=by
                show _=_;rw[br.out,show m-es.length=(m-(es.length+1))+1 by omega,nQ,b3]
              have di:=gQq b3;rw[<-b3] at K;have a9:Hid (Calls Tryz.prog 159 #[.pointer (some ⟨R,0,none⟩)] wr.drew (RdB wr A R V (Fr.nb 1099511627776 V) isI)):=(fJ V A R wr.drew K.out.rd.drew).mono fun _ _ h=>h.undrew;clear b3 b9 br;cases h1:Fr.nb 1099511627776 V with
              |error er=>
                rw[h1] at a9;have bq:Hid (∀E,Aside (fun i=>i=R) wr E->gH w R r (uQ w.1.size) (.panicked (dK er)) E):=fun E o=>by
                  have e:r=.error er:=(by rw[cb.out,h1];rfl);rw[e];exact⟨rfl,K.out.aside.trans o (fun _ _ h=>h)⟩
                clear h1 cb cp;go_wp2_with fail
                go_region_law (first|(refine bV (.tmp 17) 172 (by rfl) (by rfl) (by rfl) Tryz.func159 (by kernel_rfl) (by rfl) a9.out (fun e E y=>⟨_,y.bad.1,rfl,bq.out E y.bad.2⟩) (.int .i64 0) ?_;intro a1)|(refine bl a1 (.int .i64 0) ?_)|fail)
                all_goals exact a1.out.elim
              |ok ak=>
                obtain⟨ab,ah⟩:=ak;rw[h1] at a9;obtain⟨Y,cf⟩:∃Y,Y=V.drop ah:=⟨_,rfl⟩;have bp:Hid (∀w1,cH w1 A R Y->Calls Tryz.prog 159 #[.pointer (some ⟨R,0,none⟩)] w1 (RdB w1 A R Y (Fr.nb 1099511627776 Y) isI)):=fun w1 h=>fJ Y A R w1 h;have cc:Hid (r=ar (shE es Q (ar (Fr.nb 1099511627776 Y) fun b S=>ar (Fr.nb 1099511627776 (Y.drop S)) fun c O=>shE [⟨ab,b,c⟩] (ah+(S+O)) (Fr.rdE (m-(es.length+1)) ((Y.drop S).drop O)))) fun es j=>if (M.drop j).length=0 then .ok (qb a b c es) else .error 5):=by
                  show _=_;rw[cb.out,h1,cf];rfl
                have cq:Hid (Fr.rdE m M=shE es Q (ar (Fr.nb 1099511627776 Y) fun b S=>ar (Fr.nb 1099511627776 (Y.drop S)) fun c O=>shE [⟨ab,b,c⟩] (ah+(S+O)) (Fr.rdE (m-(es.length+1)) ((Y.drop S).drop O)))):=by
                  show _=_;rw[cp.out,h1,cf];rfl
                have bN:=gQq cf;clear h1 cb cp cf;cases h2:Fr.nb 1099511627776 Y with
                |error er=>
                  rw[h2] at bp;have bq:Hid (∀w1 E,Aside (fun i=>i=R) wr w1->Aside (fun i=>i=R) w1 E->gH w R r (uQ w.1.size) (.panicked (dK er)) E):=fun w1 E o cy=>by
                    have e:r=.error er:=(by rw[cc.out,h2];rfl);rw[e];exact⟨rfl,(K.out.aside.trans o (fun _ _ h=>h)).trans cy (fun _ _ h=>h)⟩
                  clear h2 cc cq;go_wp2_with fail
                  go_region_law (first
                    | (refine aP (.tmp 17) 172 (by rfl) (by rfl) (by rfl) Tryz.func159 (by kernel_rfl) (by rfl) a9.out ?_;intro e w1 y;obtain⟨v,J,z,D,o⟩:=y.good;clear y
                       replace z:v=.int .i64 (ab:Nat):=z
                       subst z;refine⟨_,J,?_⟩;clear J;rw[<-bN.out] at D;have W:=gQq (K.out.step o D);have a5:=gQq o;have cn:w1.cell? ⟨X,3,none⟩=some (.slice q es.length d):=aa W.out.bX 3;have c9:=ac W.out.bX 3;have e8:∀I,(w1.alloc I).cell? ⟨X,3,none⟩=some (.slice q es.length d):=fun I=>ae (gQz.alloc gQx I) cn;have e9:∀I,(w1.alloc I).frozen? ⟨X,3,none⟩=false:=fun I=>(((Below.refl w1.1.size w1).alloc gQx I).frozen (p:=⟨X,3,none⟩) (by show X<_;have:=W.out.size;omega)).trans c9;clear o D)
                    | (refine bV (.tmp 19) 172 (by rfl) (by rfl) (by rfl) Tryz.func159 (by kernel_rfl) (by rfl) (bp.out w1 W.out.rd) (fun e E y=>⟨_,y.bad.1,rfl,bq.out w1 E a5.out y.bad.2⟩) (.int .i64 0) ?_;intro a1)
                    | (refine bl a1 (.int .i64 0) ?_)
                    |fail)
                  all_goals exact a1.out.elim
                |ok bk=>
                  obtain⟨a0,a3⟩:=bk;rw[h2] at bp;obtain⟨Z,cg⟩:∃Z,Z=Y.drop a3:=⟨_,rfl⟩;have b7:Hid (∀E,cH E A R Z->Calls Tryz.prog 159 #[.pointer (some ⟨R,0,none⟩)] E (RdB E A R Z (Fr.nb 1099511627776 Z) isI)):=fun E h=>fJ Z A R E h;have cs:Hid (r=ar (shE es Q (ar (Fr.nb 1099511627776 Z) fun c O=>shE [⟨ab,a0,c⟩] (ah+(a3+O)) (Fr.rdE (m-(es.length+1)) (Z.drop O)))) fun es j=>if (M.drop j).length=0 then .ok (qb a b c es) else .error 5):=by
                    show _=_;rw[cc.out,h2,cg];rfl
                  have cr:Hid (Fr.rdE m M=shE es Q (ar (Fr.nb 1099511627776 Z) fun c O=>shE [⟨ab,a0,c⟩] (ah+(a3+O)) (Fr.rdE (m-(es.length+1)) (Z.drop O)))):=by
                    show _=_;rw[cq.out,h2,cg];rfl
                  have ca:=gQq cg;clear h2 cc cq cg;cases h3:Fr.nb 1099511627776 Z with
                  |error er=>
                    rw[h3] at b7;have bq:Hid (∀w1 E,Aside (fun i=>i=R) wr w1->Aside (fun i=>i=R) w1 E->gH w R r (uQ w.1.size) (.panicked (dK er)) E):=fun w1 E o cy=>by
                      have e:r=.error er:=(by rw[cs.out,h3];rfl);rw[e];exact⟨rfl,(K.out.aside.trans o (fun _ _ h=>h)).trans cy (fun _ _ h=>h)⟩
                    clear h3 cs cr;go_wp2_with fail
                    go_region_law (first
                      | (refine aP (.tmp 17) 172 (by rfl) (by rfl) (by rfl) Tryz.func159 (by kernel_rfl) (by rfl) a9.out ?_;intro e w1 y;obtain⟨v,J,z,D,o⟩:=y.good;clear y
                         replace z:v=.int .i64 (ab:Nat):=z
                         subst z;refine⟨_,J,?_⟩;clear J;rw[<-bN.out] at D;have W:=gQq (K.out.step o D);have a5:=gQq o;have cn:w1.cell? ⟨X,3,none⟩=some (.slice q es.length d):=aa W.out.bX 3;have c9:=ac W.out.bX 3;have e8:∀I,(w1.alloc I).cell? ⟨X,3,none⟩=some (.slice q es.length d):=fun I=>ae (gQz.alloc gQx I) cn;have e9:∀I,(w1.alloc I).frozen? ⟨X,3,none⟩=false:=fun I=>(((Below.refl w1.1.size w1).alloc gQx I).frozen (p:=⟨X,3,none⟩) (by show X<_;have:=W.out.size;omega)).trans c9;clear o D)
                      | (refine aP (.tmp 19) 172 (by rfl) (by rfl) (by rfl) Tryz.func159 (by kernel_rfl) (by rfl) (bp.out w1 W.out.rd) ?_;intro e E y;obtain⟨v,J,z,D,o⟩:=y.good;clear y
                         replace z:v=.int .i64 (a0:Nat):=z
                         subst z;refine⟨_,J,?_⟩;clear J;rw[<-ca.out] at D;have a2:=gQq (W.out.step o D);have bn:=gQq (a5.out.trans o (fun _ _ h=>h));have z3:E.cell? ⟨X,3,none⟩=some (.slice q es.length d):=aa a2.out.bX 3;have fa:=ac a2.out.bX 3;have gz:∀I,(E.alloc I).cell? ⟨X,3,none⟩=some (.slice q es.length d):=fun I=>ae (gQz.alloc gQx I) z3;have gL:∀I,(E.alloc I).frozen? ⟨X,3,none⟩=false:=fun I=>(((Below.refl E.1.size E).alloc gQx I).frozen (p:=⟨X,3,none⟩) (by show X<_;have:=a2.out.size;omega)).trans fa;clear o D)
                      | (refine bV (.tmp 21) 172 (by rfl) (by rfl) (by rfl) Tryz.func159 (by kernel_rfl) (by rfl) (b7.out E a2.out.rd) (fun e U y=>⟨_,y.bad.1,rfl,bq.out E U bn.out y.bad.2⟩) (.int .i64 0) ?_;intro a1)
                      | (refine bl a1 (.int .i64 0) ?_)
                      |fail)
                    all_goals exact a1.out.elim
                  |ok ck=>
                    obtain⟨bj,a8⟩:=ck;rw[h3] at b7;have d9:Hid (Fr.rdE m M=shE (es++[⟨ab,a0,bj⟩]) (Q+(ah+(a3+a8))) (Fr.rdE (m-(es++[(⟨ab,a0,bj⟩:Ent)]).length) (M.drop (Q+(ah+(a3+a8)))))):=by
                      show _=_;have e:Fr.rdE m M=shE es Q (shE [⟨ab,a0,bj⟩] (ah+(a3+a8)) (Fr.rdE (m-(es.length+1)) (Z.drop a8))):=by
                        rw[cr.out,h3];rfl
                      rw[e,wH,List.length_append,List.length_singleton,ca.out,bN.out,di.out,List.drop_drop,List.drop_drop,List.drop_drop]
                    have ed:Hid (Z.drop a8=M.drop (Q+(ah+(a3+a8)))):=by
                      show _=_;rw[ca.out,bN.out,di.out,List.drop_drop,List.drop_drop,List.drop_drop]
                    clear h3 cs cr;go_wp2_with fail
                    go_region_law (first
                      | (refine aP (.tmp 17) 172 (by rfl) (by rfl) (by rfl) Tryz.func159 (by kernel_rfl) (by rfl) a9.out ?_;intro e w1 y;obtain⟨v,J,z,D,o⟩:=y.good;clear y
                         replace z:v=.int .i64 (ab:Nat):=z
                         subst z;refine⟨_,J,?_⟩;clear J;rw[<-bN.out] at D;have W:=gQq (K.out.step o D);have cn:w1.cell? ⟨X,3,none⟩=some (.slice q es.length d):=aa W.out.bX 3;clear o D)
                      | (refine aP (.tmp 19) 172 (by rfl) (by rfl) (by rfl) Tryz.func159 (by kernel_rfl) (by rfl) (bp.out w1 W.out.rd) ?_;intro e E y;obtain⟨v,J,z,D,o⟩:=y.good;clear y
                         replace z:v=.int .i64 (a0:Nat):=z
                         subst z;refine⟨_,J,?_⟩;clear J;rw[<-ca.out] at D;have a2:=gQq (W.out.step o D);have z3:E.cell? ⟨X,3,none⟩=some (.slice q es.length d):=aa a2.out.bX 3;clear o D)
                      | (refine aP (.tmp 21) 172 (by rfl) (by rfl) (by rfl) Tryz.func159 (by kernel_rfl) (by rfl) (b7.out E a2.out.rd) ?_;intro e U y;obtain⟨v,J,z,D,o⟩:=y.good;clear y
                         replace z:v=.int .i64 (bj:Nat):=z
                         subst z;refine⟨_,J,?_⟩;clear J;have b8:=gQq (a2.out.step o D);have e7:U.cell? ⟨X,3,none⟩=some (.slice q es.length d):=aa b8.out.bX 3;have gg:∀I,(U.alloc I).cell? ⟨X,3,none⟩=some (.slice q es.length d):=fun I=>ae (gQz.alloc gQx I) e7;have f2:=b8.out.size;clear o D)
                      | (refine jJ (B:=X+1) (es:=es) (v:=.slice q es.length d) (by exact b8.out.own.on gQy) ⟨ab,a0,bj⟩ (ad:=U.1.size) (by exact am U _) (by omega) (by simp;omega) (H:=U.1.size+1) (by simp) (.tmp 16) (.tmp 24) (by rfl) (by rfl) (by rfl) (by rfl) ?_;intro eu ep w4 d7 d3 _;have cj:=b8.out.more d7 d3;have gd:w4.cell? ⟨X,3,none⟩=some (.slice q es.length d):=aa cj.1 3;have ge:=ac cj.1 3;have eb:=gQq cj.2;clear cj d7 d3)
                      |fail)
                    all_goals
                      go_wp2;go_roundw;case rel=>
                        refine⟨es++[⟨ab,a0,bj⟩],Q+(ah+(a3+a8)),some ⟨eu,0,none⟩,ep,by simp;omega,by rw[List.length_append,List.length_singleton];go_num,?_,d9.out⟩;have:=eb.out;rw[ed.out] at this;simpa using this
                      case measure=>simp[intOf];omega
            · have fi:¬(es.length:Int)<(m:Int):=(by omega);have d8:es.length=m:=(by omega);have b0:Hid (r=if (M.drop Q).length=0 then .ok (qb a b c es) else .error 5):=by
                show _=_;rw[dj.out,br.out,d8,Nat.sub_self];simp[Fr.rdE,shE,ar]
              obtain⟨e6,c1,c5,-,-,-⟩:=K.out.rd.out;obtain⟨b2,d2⟩:∃b2,b2=(M.drop Q).length:=⟨_,rfl⟩;rw[<-d2] at c5 b0;have gb:wr.cell? ⟨R,0,none⟩=some (.slice e6 b2 c1):=aa c5 0;have ci:=K.out.bX;have u0:wr.cell? ⟨X,0,none⟩=some (.int .i64 a):=aa ci 0;have u1:wr.cell? ⟨X,1,none⟩=some (.int .i64 b):=aa ci 1;have u2:wr.cell? ⟨X,2,none⟩=some (.int .i64 c):=aa ci 2;have a7:=K.out.bO;obtain⟨gh,gl,gm,gn⟩:=cQ4 a7;have gp:=ac a7 0;have gs:=ac a7 1;have gt:=ac a7 2;have gu:=ac a7 3;have ec:=gQq a7;clear d2 c5 ci a7 b9 br d8;by_cases ce:b2=0
              · have eg:Hid (r=.ok (qb a b c es)):=b0.out.trans (if_pos ce);subst ce;clear b0;go_wp2_with fail;refine(ju _ 5 _).mono ?_;rintro e w5 ⟨rfl,b5⟩;rw[b5];clear b5 w5;go_wp2;have ei:(wr.setCell ⟨w.1.size,0,none⟩ (.int .i64 a)).1[w.1.size]?=some (.cells #[.int .i64 a,.int .i64 0,.int .i64 0,.slice none 0 0] 169 (0,0)):=ai ec.out 0 _;have el:((wr.setCell ⟨w.1.size,0,none⟩ (.int .i64 a)).setCell ⟨w.1.size,1,none⟩ (.int .i64 b)).1[w.1.size]?=some (.cells #[.int .i64 a,.int .i64 b,.int .i64 0,.slice none 0 0] 169 (0,0)):=ai ei 1 _;have em:(((wr.setCell ⟨w.1.size,0,none⟩ (.int .i64 a)).setCell ⟨w.1.size,1,none⟩ (.int .i64 b)).setCell ⟨w.1.size,2,none⟩ (.int .i64 c)).1[w.1.size]?=some (.cells #[.int .i64 a,.int .i64 b,.int .i64 c,.slice none 0 0] 169 (0,0)):=ai el 2 _;have en:((((wr.setCell ⟨w.1.size,0,none⟩ (.int .i64 a)).setCell ⟨w.1.size,1,none⟩ (.int .i64 b)).setCell ⟨w.1.size,2,none⟩ (.int .i64 c)).setCell ⟨w.1.size,3,none⟩ (.slice q es.length d)).1[w.1.size]?=some (.cells #[.int .i64 a,.int .i64 b,.int .i64 c,.slice q es.length d] 169 (0,0)):=ai em 3 _;have dr:Aside (fun i=>i=w.1.size) wr ((((wr.setCell ⟨w.1.size,0,none⟩ (.int .i64 a)).setCell ⟨w.1.size,1,none⟩ (.int .i64 b)).setCell ⟨w.1.size,2,none⟩ (.int .i64 c)).setCell ⟨w.1.size,3,none⟩ (.slice q es.length d)):=(((ag wr w.1.size 0 _).trans (ag _ w.1.size 1 _) (fun _ _ h=>h)).trans (ag _ w.1.size 2 _) (fun _ _ h=>h)).trans (ag _ w.1.size 3 _) (fun _ _ h=>h)
                refine bodyPost_ret (v:=.agg #[.int .i64 a,.int .i64 b,.int .i64 c,.slice q es.length d]) (results_cell_row rfl _ _ w.1.size _ _ _ _ rfl en Tryz.underlying169 rfl (by kernel_rfl)) rfl ?_;rw[eg.out];refine⟨_,rfl,⟨q,d,rfl,?_⟩,?_⟩
                · exact(K.out.own.aside dr (fun k eC ff=>by have:=(K.out.own.lt k eC).1;omega)).low (by omega)
                · exact K.out.aside.trans dr (fun i fh h=>by omega)
              · have aj:Hid (r=.error 5):=b0.out.trans (if_neg ce);have fb:((b2:Int)==0)=false:=bd (by omega);clear b0 ce;go_wp2_with fail;refine(gV _ 5 _).mono ?_;rintro e w5 ⟨rfl,b5⟩;rw[b5];clear b5 w5;go_wp2;rw[aj.out];exact⟨rfl,rfl,K.out.aside⟩
end Go.Proofs.YtbahfgdbjgkklaaGreatDoor
