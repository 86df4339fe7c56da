import Derived.Test.YtdkammppnkhhoaaGreatDoorB23
set_option maxRecDepth 100000
set_option maxHeartbeats 4000000
namespace Go.Proofs.YtdkammppnkhhoaaGreatDoor
variable{A R X a b c:Nat}{w:World}{l:L8}{v:Value}{es:List Ent}
open Go.RowKit
def nZ(a b c:Nat)(es:List Ent):Fr:={ Fr0 with kind:=3,index:=⟨a,b,c,es⟩ }
theorem vL(l:L8):Fr.rdI l=ao (Fr.nb 1099511627776 l) fun a k=>ao (Fr.nb 1099511627776 (l.drop k)) fun b o=>ao (Fr.nb 1099511627776 ((l.drop k).drop o)) fun c k3=>ao (Fr.nb 65 (((l.drop k).drop o).drop k3)) fun m k4=>ao (Fr.rdE m ((((l.drop k).drop o).drop k3).drop k4)) fun es j=>if (((((l.drop k).drop o).drop k3).drop k4).drop j).length=0 then .ok (nZ a b c es) else .error 5:=by
 have D:∀{L:Nat} {l:L8} {n k:Nat},Fr.nb L l=.ok (n,k)->k<=l.length:=by
  intro L l n k h;obtain⟨_,r,I,J⟩:=Fr.nb_ok h;rw[I,J,List.length_append];omega
 unfold Fr.rdI;rw[xm];cases I:Fr.nb 1099511627776 l with
 |error e=>rfl
 |ok p=>
  obtain⟨x,k⟩:=p;dsimp only[ao];cases J:Fr.nb 1099511627776 (l.drop k) with
  |error e=>rfl
  |ok p=>
   obtain⟨y,o⟩:=p;dsimp only[ao];cases h3:Fr.nb 1099511627776 ((l.drop k).drop o) with
   |error e=>rfl
   |ok p=>
    obtain⟨z,k3⟩:=p;dsimp only[ao];cases h4:Fr.nb 65 (((l.drop k).drop o).drop k3) with
    |error e=>rfl
    |ok p=>
     obtain⟨t,k4⟩:=p;dsimp only[ao];rw[vA];simp only[List.getD_cons_zero,List.getD_cons_succ];cases h5:Fr.rdE t ((((l.drop k).drop o).drop k3).drop k4) with
     |error e=>rfl
     |ok p=>
      obtain⟨es,j⟩:=p;dsimp only;have M:=D I;have O:=D J;have U:=D h3;have V:=D h4;obtain⟨_,_,aj,W,ah⟩:=Fr.rdE_ok _ _ _ _ h5;have Y:=congrArg List.length W;simp only[List.length_append,List.length_drop] at M O U V Y;have K:(k+(o+(k3+(k4+0)))+j=l.length)↔((((((l.drop k).drop o).drop k3).drop k4).drop j).length=0):=by
       simp only[List.length_drop];omega
      by_cases E:k+(o+(k3+(k4+0)))+j=l.length
      ·rw[if_pos E,if_pos (K.1 E)];rfl
      ·rw[if_neg E,if_neg (fun Z=>E (K.2 Z))]
def shE(es:List Ent)(J:Nat):Except Nat (List Ent×Nat)->Except Nat (List Ent×Nat)
 |.error e=>.error e
 |.ok (fs,j)=>.ok (es++fs,J+j)
theorem tZ(a b:List Ent)(i j:Nat)(r:Except Nat (List Ent×Nat)):shE a i (shE b j r)=shE (a++b) (i+j) r:=by
 cases r with
 |error e=>rfl
 |ok p=>simp[shE,Nat.add_assoc]
theorem l7(m:Nat)(l:L8):Fr.rdE (m+1) l=ao (Fr.nb 1099511627776 l) fun a k=>ao (Fr.nb 1099511627776 (l.drop k)) fun b o=>ao (Fr.nb 1099511627776 ((l.drop k).drop o)) fun c y=>shE [⟨a,b,c⟩] (k+(o+y)) (Fr.rdE m (((l.drop k).drop o).drop y)):=by
 rw[Fr.rdE];unfold Fr.nbs;cases Fr.nb 1099511627776 l with
 |error e=>rfl
 |ok p=>
  obtain⟨x,k⟩:=p;dsimp only[ao];unfold Fr.nbs;cases Fr.nb 1099511627776 (l.drop k) with
  |error e=>rfl
  |ok p=>
   obtain⟨z,o⟩:=p;dsimp only[ao];unfold Fr.nbs;cases Fr.nb 1099511627776 ((l.drop k).drop o) with
   |error e=>rfl
   |ok p=>
    obtain⟨D,y⟩:=p;dsimp only[ao];unfold Fr.nbs;dsimp only;rw[show l.drop (k+(o+(y+0)))=((l.drop k).drop o).drop y by rw[List.drop_drop,List.drop_drop,Nat.add_zero]];cases Fr.rdE m (((l.drop k).drop o).drop y) with
    |error e=>rfl
    |ok q=>rfl
theorem RdB.undrew{D:Type}{w w':World}{A R:Nat}{l:L8}{r:Except Nat (D×Nat)}{V:D->Value->World->Prop}{e:Ending}(h:RdB w.drew A R l r V e w'):RdB w A R l r V e w':=by
 cases r with
 |error k=>
  obtain⟨z,o⟩:=h.bad;exact⟨z,⟨o.os,o.tape,o.output,o.size,o.block⟩⟩
 |ok aj=>
  obtain⟨a,j⟩:=aj;obtain⟨v,z,o,E,y⟩:=h.good;exact⟨v,z,o,E,⟨y.os,y.tape,y.output,y.size,y.block⟩⟩
structure g9(w wr:World)(A R X:Nat)(a b c:Nat)(v:Value)(es:List Ent)(l:L8):Prop where
 bO:wr.1[w.1.size]?=some (.cells #[.int .i64 0,.int .i64 0,.int .i64 0,.slice none 0 0] 126 (0,0))
 bX:wr.1[X]?=some (.cells #[.int .i64 a,.int .i64 b,.int .i64 c,v] 45 (0,0))
 own:bv wr (X+1) v es
 rd:cf wr A R l
 aside:Aside (fun i=>i=R) w wr
 size:X+1<=wr.1.size
 low:w.1.size<X∧R<w.1.size
theorem g9.step{wr y:World}{z:L8}(h:g9 w wr A R X a b c v es l)(o:Aside (fun i=>i=R) wr y)(I:cf y A R z):g9 w y A R X a b c v es z:=by
 have E:=h.low;have J:=h.size;exact⟨(o.block _ (by omega) (by omega)).trans h.bO,(o.block _ (by omega) (by omega)).trans h.bX,h.own.aside o (fun k D K=>by have:=(h.own.lt k D).1;omega),I,h.aside.trans o (fun _ _ h=>h),Nat.le_trans J o.size,E⟩
theorem g9.more{D w4:World}{g cap:Nat}{x:Ent}{K:Obj}(h:g9 w D A R X a b c v es l)(J:bv w4 (X+1) (.slice (some ⟨g,0,none⟩) (es.length+1) cap) (es++[x]))(z:(D.alloc K).grownBy w4 v.ownBlock):
  w4.1[X]?=some (.cells #[.int .i64 a,.int .i64 b,.int .i64 c,v] 45 (0,0))∧g9 w (w4.setCell ⟨X,3,none⟩ (.slice (some ⟨g,0,none⟩) (es.length+1) cap)) A R X a b c (.slice (some ⟨g,0,none⟩) (es.length+1) cap) (es++[x]) l:=by
 have O:=h.low;have W:=h.size;have Y:(D.alloc K).1.size=D.1.size+1:=by simp
 have V:=z.size;have E:∀k,k<=X->w4.1[k]?=D.1[k]?:=fun k y=>by
  rw[z.block k (by omega) (fun L=>by have:=(h.own.lt k L.symm).1;omega)];exact aG _ _ (by omega)
 have I:=(E X xZ).trans h.bX;have o:Aside (fun i=>i=X) w4 (w4.setCell ⟨X,3,none⟩ (.slice (some ⟨g,0,none⟩) (es.length+1) cap)):=ai _ _ _ _;refine⟨I,?_,?_,?_,?_,?_,?_,O⟩
 ·rw[o.block _ (by omega) (by omega),E _ (by omega)];exact h.bO
 ·have:=an I 3 (.slice (some ⟨g,0,none⟩) (es.length+1) cap);exact this
 ·exact J.aside o (fun k y U=>by have:=(J.lt k y).1;omega)
 ·exact(h.rd.keep (w':=w4) (fun k y=>E k (by omega)) (by omega)).aside o (fun k y=>by omega)
 ·refine⟨?_,?_,?_,?_,fun k y M=>?_⟩
  ·exact z.os.trans h.aside.os
  ·exact z.tape.trans h.aside.tape
  ·exact z.output.trans h.aside.output
  ·have:=h.aside.size;have:=o.size;omega
  ·have:=h.aside.size;rw[o.block _ (by omega) (by omega),E _ (by omega)];exact h.aside.block k y M
 ·have:=o.size;omega
theorem kL(l:L8)(A R:Nat)(w:World)(h:cf w A R l):Calls Tryz.prog 110 #[.pointer (some ⟨R,0,none⟩)] w (fC w R (Fr.rdI l) (sQ w.1.size)):=by
  obtain⟨w0,b7⟩:∃w0,w0=w.alloc (.cells #[.int .i64 0,.int .i64 0,.int .i64 0,.slice none 0 0] 126):=⟨_,rfl⟩;have g7:w0.1.size=w.1.size+1:=by rw[b7];simp
  have d5:Hid (Below w.1.size w w0):=by rw[b7];exact xV
  have d6:Hid (w0.1[w.1.size]?=some (.cells #[.int .i64 0,.int .i64 0,.int .i64 0,.slice none 0 0] 126 (0,0))):=by show _=_;rw[b7];exact ag w _
  have fr:Hid (w.alloc (.cells #[.int .i64 0,.int .i64 0,.int .i64 0,.slice none 0 0] 126)=w0):=by rw[b7];exact rfl
  have el:=xX (h.on d5.out);have f3:=h.lt;obtain⟨r,d1⟩:∃r,r=Fr.rdI l:=⟨_,rfl⟩;have b2:=xX (d1.trans (vL l));rw[<-d1];have cy:Hid (Aside (fun i=>i=R) w w0):=ae d5.out _;obtain⟨b4,eq⟩:∃b4,b4=l:=⟨_,rfl⟩;rw[<-eq] at el b2;clear d1 h b7 eq;go_enter Tryz.func110,Tryz.ntmps110;have HN:=xX (eD b4 A R w0 el.out);obtain⟨f8,eS⟩:∃m,m=Fr.nb 1099511627776 b4:=⟨_,rfl⟩;rw[<-eS] at HN b2;clear eS;go_wp2_with fail;rw[fr.out];refine HN.out.mono ?_;intro e w1 y;cases f8 with
  |error er=>
    have a2:Hid (r=.error er):=b2.out;obtain⟨J,o⟩:=y.bad;subst J;have a7:=xX (cy.out.trans o (fun _ _ h=>h));clear y o HN;go_wp2;rw[a2.out];exact⟨rfl,rfl,a7.out⟩
  |ok nk=>
    obtain⟨a,f6⟩:=nk;obtain⟨v,J,z,D,o⟩:=y.good
    replace z:v=.int .i64 (a:Nat):=z
    subst z;subst J;have a8:=xX (cy.out.trans o (fun _ _ h=>h));have d7:Hid (w1.1[w.1.size]?=some (.cells #[.int .i64 0,.int .i64 0,.int .i64 0,.slice none 0 0] 126 (0,0))):=(o.block _ (by omega) (by omega)).trans d6.out;have g8:w.1.size+1<=w1.1.size:=(by have:=o.size;omega);have be:=xX (show r=_ from b2.out);dsimp only[ao] at be;obtain⟨c9,eu⟩:∃L,L=b4.drop f6:=⟨_,rfl⟩;rw[<-eu] at be D;have e9:=xX D;clear y o D HN eu b2 cy d6;have HN:=xX (eD c9 A R w1 e9.out);obtain⟨f9,eU⟩:∃m,m=Fr.nb 1099511627776 c9:=⟨_,rfl⟩;rw[<-eU] at HN be;clear eU;go_wp2_with fail;refine HN.out.mono ?_;intro e E y;cases f9 with
    |error er=>
      have a2:Hid (r=.error er):=be.out;obtain⟨J,o⟩:=y.bad;subst J;have a7:=xX (a8.out.trans o (fun _ _ h=>h));clear y o HN;go_wp2;rw[a2.out];exact⟨rfl,rfl,a7.out⟩
    |ok nk=>
      obtain⟨b,f7⟩:=nk;obtain⟨v,J,z,D,o⟩:=y.good
      replace z:v=.int .i64 (b:Nat):=z
      subst z;subst J;have bq:=xX (a8.out.trans o (fun _ _ h=>h));have d8:Hid (E.1[w.1.size]?=some (.cells #[.int .i64 0,.int .i64 0,.int .i64 0,.slice none 0 0] 126 (0,0))):=(o.block _ (by omega) (by omega)).trans d7.out;have ha:w.1.size+1<=E.1.size:=(by have:=o.size;omega);have bj:=xX (show r=_ from be.out);dsimp only[ao] at bj;obtain⟨dd,ew⟩:∃L,L=c9.drop f7:=⟨_,rfl⟩;rw[<-ew] at bj D;have fi:=xX D;clear y o D HN ew be a8 d7;have HN:=xX (eD dd A R E fi.out);obtain⟨gb,e0⟩:∃m,m=Fr.nb 1099511627776 dd:=⟨_,rfl⟩;rw[<-e0] at HN bj;clear e0;go_wp2_with fail;refine HN.out.mono ?_;intro e W y;cases gb with
      |error er=>
        have a2:Hid (r=.error er):=bj.out;obtain⟨J,o⟩:=y.bad;subst J;have a7:=xX (bq.out.trans o (fun _ _ h=>h));clear y o HN;go_wp2;rw[a2.out];exact⟨rfl,rfl,a7.out⟩
      |ok nk=>
        obtain⟨c,V⟩:=nk;obtain⟨v,J,z,D,o⟩:=y.good
        replace z:v=.int .i64 (c:Nat):=z
        subst z;subst J;have d4:=xX (bq.out.trans o (fun _ _ h=>h));have d9:Hid (W.1[w.1.size]?=some (.cells #[.int .i64 0,.int .i64 0,.int .i64 0,.slice none 0 0] 126 (0,0))):=(o.block _ (by omega) (by omega)).trans d8.out;have hc:w.1.size+1<=W.1.size:=(by have:=o.size;omega);have bl:=xX (show r=_ from bj.out);dsimp only[ao] at bl;obtain⟨cp,ez⟩:∃L,L=dd.drop V:=⟨_,rfl⟩;rw[<-ez] at bl D;have em:=xX D;clear y o D HN ez bj bq d8;obtain⟨bn,b9⟩:∃bn,bn=W.alloc (.cells #[.int .i64 a,.int .i64 b,.int .i64 c,.slice none 0 0] 45):=⟨_,rfl⟩;have en:Hid (W.alloc (.cells #[.int .i64 a,.int .i64 b,.int .i64 c,.slice none 0 0] 45)=bn):=(by rw[b9];exact rfl);have b0:Hid (g9 w bn A R W.1.size a b c (.slice none 0 0) [] cp):=by
          have hb:Below W.1.size W bn:=(by rw[b9];exact xV);refine⟨(hb.block _ (by omega)).trans d9.out,by rw[b9];exact ag W _,dn _ _,em.out.on hb,d4.out.trans (ae hb (fun i=>i=R)) (fun _ _ h=>h),by rw[b9];simp,by omega,f3⟩
        obtain⟨X,dp⟩:∃X,X=W.1.size:=⟨_,rfl⟩;rw[<-dp] at b0;clear b9;have HN:=xX (fP 65 (by omega) cp A R bn b0.out.rd);obtain⟨gd,d0⟩:∃m,m=Fr.nb 65 cp:=⟨_,rfl⟩;rw[<-d0] at HN bl;have ea:=xX d0;clear d0;go_wp2_with fail;rw[en.out];refine HN.out.mono ?_;intro e w4 y;cases gd with
        |error er=>
          have a2:Hid (r=.error er):=bl.out;obtain⟨J,o⟩:=y.bad;subst J;have a7:=xX (b0.out.aside.trans o (fun _ _ h=>h));clear y o HN;go_wp2;rw[a2.out];exact⟨rfl,rfl,a7.out⟩
        |ok nk=>
          obtain⟨m,O⟩:=nk;obtain⟨v,J,z,D,o⟩:=y.good
          replace z:v=.int .i64 (m:Nat):=z
          subst z;subst J;have g4:m<65:=(Fr.nb_ok ea.out.symm).1;obtain⟨M,df⟩:∃L,L=cp.drop O:=⟨_,rfl⟩;rw[<-df] at D;have e5:=xX (b0.out.step o D);have ec:Hid (r=ao (Fr.rdE m M) fun es j=>if (M.drop j).length=0 then .ok (nZ a b c es) else .error 5):=by
            show _=_;rw[df];exact bl.out
          clear y o D HN df bl d4 d9 b0 en ea em;go_wp2_with fail;rw[<-dp];clear dp;go_loopw [13] (fun d2 wr=>∃(es:List Ent) (U:Nat) (q:OA) (d:Nat),es.length<=m∧d2=.int .i64 es.length∧Hid (g9 w wr A R X a b c (.slice q es.length d) es (M.drop U)∧Fr.rdE m M=shE es U (Fr.rdE (m-es.length) (M.drop U)))) (fun d2 _=>m-(intOf d2).toNat);case atStart=>
            refine⟨[],0,none,0,by simp,rfl,e5.out,?_⟩;rw[List.length_nil,Nat.sub_zero,List.drop_zero];cases Fr.rdE m M with
            |error e=>rfl
            |ok q=>simp[shE]
          case round=>
            obtain⟨es,U,q,d,gL,rfl,ci⟩:=hrel;have K:=xX ci.out.1;have bT:=xX ci.out.2;have dr:=aa K.out.bX 3
            replace dr:wr.cell? ⟨X,3,none⟩=some (.slice q es.length d):=dr
            have f4:=ab K.out.bX 3;have g1:=K.out.low;have g6:=K.out.size;have gs:∀I,(wr.alloc I).cell? ⟨X,3,none⟩=some (.slice q es.length d):=fun I=>ac (xY.alloc xZ I) dr;have gt:∀I,(wr.alloc I).frozen? ⟨X,3,none⟩=false:=fun I=>(((Below.refl wr.1.size wr).alloc xZ I).frozen (p:=⟨X,3,none⟩) (by show X<_;omega)).trans f4;by_cases g2:es.length<m
            · have g3:(es.length:Int)<(m:Int):=(by omega);obtain⟨Y,b6⟩:∃Y,Y=M.drop U:=⟨_,rfl⟩;have cn:Hid (r=ao (shE es U (ao (Fr.nb 1099511627776 Y) fun a k=>ao (Fr.nb 1099511627776 (Y.drop k)) fun b V=>ao (Fr.nb 1099511627776 ((Y.drop k).drop V)) fun c O=>shE [⟨a,b,c⟩] (k+(V+O)) (Fr.rdE (m-(es.length+1)) (((Y.drop k).drop V).drop O)))) fun es j=>if (M.drop j).length=0 then .ok (nZ a b c es) else .error 5):=by
                show _=_;rw[ec.out,bT.out,show m-es.length=(m-(es.length+1))+1 by omega,l7,b6]
              have c5:Hid (Fr.rdE m M=shE es U (ao (Fr.nb 1099511627776 Y) fun a k=>ao (Fr.nb 1099511627776 (Y.drop k)) fun b V=>ao (Fr.nb 1099511627776 ((Y.drop k).drop V)) fun c O=>shE [⟨a,b,c⟩] (k+(V+O)) (Fr.rdE (m-(es.length+1)) (((Y.drop k).drop V).drop O)))):=by
                show _=_;rw[bT.out,show m-es.length=(m-(es.length+1))+1 by omega,l7,b6]
              have eb:=xX b6;rw[<-b6] at K;have bd:Hid (Calls Tryz.prog 140 #[.pointer (some ⟨R,0,none⟩)] wr.drew (RdB wr A R Y (Fr.nb 1099511627776 Y) isI)):=(eD Y A R wr.drew K.out.rd.drew).mono fun _ _ h=>h.undrew;clear b6 ci bT;cases h1:Fr.nb 1099511627776 Y with
              |error er=>
                rw[h1] at bd;have bN:Hid (∀E,Aside (fun i=>i=R) wr E->fC w R r (sQ w.1.size) (.panicked (ei er)) E):=fun E o=>by
                  have e:r=.error er:=(by rw[cn.out,h1];rfl);rw[e];exact⟨rfl,K.out.aside.trans o (fun _ _ h=>h)⟩
                clear h1 cn c5;go_wp2_with fail
                go_region_law (first|(refine dA (.tmp 17) 154 (by rfl) (by rfl) (by rfl) Tryz.func140 (by kernel_rfl) (by rfl) bd.out (fun e E y=>⟨_,y.bad.1,rfl,bN.out E y.bad.2⟩) (.int .i64 0) ?_;intro a4)|(refine cM a4 (.int .i64 0) ?_)|fail)
                all_goals exact a4.out.elim
              |ok ak=>
                obtain⟨a0,a1⟩:=ak;rw[h1] at bd;obtain⟨ah,cs⟩:∃ah,ah=Y.drop a1:=⟨_,rfl⟩;have bs:Hid (∀w1,cf w1 A R ah->Calls Tryz.prog 140 #[.pointer (some ⟨R,0,none⟩)] w1 (RdB w1 A R ah (Fr.nb 1099511627776 ah) isI)):=fun w1 h=>eD ah A R w1 h;have co:Hid (r=ao (shE es U (ao (Fr.nb 1099511627776 ah) fun b V=>ao (Fr.nb 1099511627776 (ah.drop V)) fun c O=>shE [⟨a0,b,c⟩] (a1+(V+O)) (Fr.rdE (m-(es.length+1)) ((ah.drop V).drop O)))) fun es j=>if (M.drop j).length=0 then .ok (nZ a b c es) else .error 5):=by
                  show _=_;rw[cn.out,h1,cs];rfl
                have c6:Hid (Fr.rdE m M=shE es U (ao (Fr.nb 1099511627776 ah) fun b V=>ao (Fr.nb 1099511627776 (ah.drop V)) fun c O=>shE [⟨a0,b,c⟩] (a1+(V+O)) (Fr.rdE (m-(es.length+1)) ((ah.drop V).drop O)))):=by
                  show _=_;rw[c5.out,h1,cs];rfl
                have b1:=xX cs;clear h1 cn c5 cs;cases h2:Fr.nb 1099511627776 ah with
                |error er=>
                  rw[h2] at bs;have bN:Hid (∀w1 E,Aside (fun i=>i=R) wr w1->Aside (fun i=>i=R) w1 E->fC w R r (sQ w.1.size) (.panicked (ei er)) E):=fun w1 E o ds=>by
                    have e:r=.error er:=(by rw[co.out,h2];rfl);rw[e];exact⟨rfl,(K.out.aside.trans o (fun _ _ h=>h)).trans ds (fun _ _ h=>h)⟩
                  clear h2 co c6;go_wp2_with fail
                  go_region_law (first
                    | (refine bE (.tmp 17) 154 (by rfl) (by rfl) (by rfl) Tryz.func140 (by kernel_rfl) (by rfl) bd.out ?_;intro e w1 y;obtain⟨v,J,z,D,o⟩:=y.good;clear y
                       replace z:v=.int .i64 (a0:Nat):=z
                       subst z;refine⟨_,J,?_⟩;clear J;rw[<-b1.out] at D;have Z:=xX (K.out.step o D);have a8:=xX o;have cx:w1.cell? ⟨X,3,none⟩=some (.slice q es.length d):=aa Z.out.bX 3;have d3:=ab Z.out.bX 3;have gl:∀I,(w1.alloc I).cell? ⟨X,3,none⟩=some (.slice q es.length d):=fun I=>ac (xY.alloc xZ I) cx;have gm:∀I,(w1.alloc I).frozen? ⟨X,3,none⟩=false:=fun I=>(((Below.refl w1.1.size w1).alloc xZ I).frozen (p:=⟨X,3,none⟩) (by show X<_;have:=Z.out.size;omega)).trans d3;clear o D)
                    | (refine dA (.tmp 19) 154 (by rfl) (by rfl) (by rfl) Tryz.func140 (by kernel_rfl) (by rfl) (bs.out w1 Z.out.rd) (fun e E y=>⟨_,y.bad.1,rfl,bN.out w1 E a8.out y.bad.2⟩) (.int .i64 0) ?_;intro a4)
                    | (refine cM a4 (.int .i64 0) ?_)
                    |fail)
                  all_goals exact a4.out.elim
                |ok bk=>
                  obtain⟨a3,a6⟩:=bk;rw[h2] at bs;obtain⟨aj,ct⟩:∃aj,aj=ah.drop a6:=⟨_,rfl⟩;have cb:Hid (∀E,cf E A R aj->Calls Tryz.prog 140 #[.pointer (some ⟨R,0,none⟩)] E (RdB E A R aj (Fr.nb 1099511627776 aj) isI)):=fun E h=>eD aj A R E h;have c8:Hid (r=ao (shE es U (ao (Fr.nb 1099511627776 aj) fun c O=>shE [⟨a0,a3,c⟩] (a1+(a6+O)) (Fr.rdE (m-(es.length+1)) (aj.drop O)))) fun es j=>if (M.drop j).length=0 then .ok (nZ a b c es) else .error 5):=by
                    show _=_;rw[co.out,h2,ct];rfl
                  have c7:Hid (Fr.rdE m M=shE es U (ao (Fr.nb 1099511627776 aj) fun c O=>shE [⟨a0,a3,c⟩] (a1+(a6+O)) (Fr.rdE (m-(es.length+1)) (aj.drop O)))):=by
                    show _=_;rw[c6.out,h2,ct];rfl
                  have cj:=xX ct;clear h2 co c6 ct;cases h3:Fr.nb 1099511627776 aj with
                  |error er=>
                    rw[h3] at cb;have bN:Hid (∀w1 E,Aside (fun i=>i=R) wr w1->Aside (fun i=>i=R) w1 E->fC w R r (sQ w.1.size) (.panicked (ei er)) E):=fun w1 E o ds=>by
                      have e:r=.error er:=(by rw[c8.out,h3];rfl);rw[e];exact⟨rfl,(K.out.aside.trans o (fun _ _ h=>h)).trans ds (fun _ _ h=>h)⟩
                    clear h3 c8 c7;go_wp2_with fail
                    go_region_law (first
                      | (refine bE (.tmp 17) 154 (by rfl) (by rfl) (by rfl) Tryz.func140 (by kernel_rfl) (by rfl) bd.out ?_;intro e w1 y;obtain⟨v,J,z,D,o⟩:=y.good;clear y
                         replace z:v=.int .i64 (a0:Nat):=z
                         subst z;refine⟨_,J,?_⟩;clear J;rw[<-b1.out] at D;have Z:=xX (K.out.step o D);have a8:=xX o;have cx:w1.cell? ⟨X,3,none⟩=some (.slice q es.length d):=aa Z.out.bX 3;have d3:=ab Z.out.bX 3;have gl:∀I,(w1.alloc I).cell? ⟨X,3,none⟩=some (.slice q es.length d):=fun I=>ac (xY.alloc xZ I) cx;have gm:∀I,(w1.alloc I).frozen? ⟨X,3,none⟩=false:=fun I=>(((Below.refl w1.1.size w1).alloc xZ I).frozen (p:=⟨X,3,none⟩) (by show X<_;have:=Z.out.size;omega)).trans d3;clear o D)
                      | (refine bE (.tmp 19) 154 (by rfl) (by rfl) (by rfl) Tryz.func140 (by kernel_rfl) (by rfl) (bs.out w1 Z.out.rd) ?_;intro e E y;obtain⟨v,J,z,D,o⟩:=y.good;clear y
                         replace z:v=.int .i64 (a3:Nat):=z
                         subst z;refine⟨_,J,?_⟩;clear J;rw[<-cj.out] at D;have a5:=xX (Z.out.step o D);have bq:=xX (a8.out.trans o (fun _ _ h=>h));have e3:E.cell? ⟨X,3,none⟩=some (.slice q es.length d):=aa a5.out.bX 3;have gn:=ab a5.out.bX 3;have hq:∀I,(E.alloc I).cell? ⟨X,3,none⟩=some (.slice q es.length d):=fun I=>ac (xY.alloc xZ I) e3;have hr:∀I,(E.alloc I).frozen? ⟨X,3,none⟩=false:=fun I=>(((Below.refl E.1.size E).alloc xZ I).frozen (p:=⟨X,3,none⟩) (by show X<_;have:=a5.out.size;omega)).trans gn;clear o D)
                      | (refine dA (.tmp 21) 154 (by rfl) (by rfl) (by rfl) Tryz.func140 (by kernel_rfl) (by rfl) (cb.out E a5.out.rd) (fun e W y=>⟨_,y.bad.1,rfl,bN.out E W bq.out y.bad.2⟩) (.int .i64 0) ?_;intro a4)
                      | (refine cM a4 (.int .i64 0) ?_)
                      |fail)
                    all_goals exact a4.out.elim
                  |ok ck=>
                    obtain⟨bp,bc⟩:=ck;rw[h3] at cb;have e4:Hid (Fr.rdE m M=shE (es++[⟨a0,a3,bp⟩]) (U+(a1+(a6+bc))) (Fr.rdE (m-(es++[(⟨a0,a3,bp⟩:Ent)]).length) (M.drop (U+(a1+(a6+bc)))))):=by
                      show _=_;have e:Fr.rdE m M=shE es U (shE [⟨a0,a3,bp⟩] (a1+(a6+bc)) (Fr.rdE (m-(es.length+1)) (aj.drop bc))):=by
                        rw[c7.out,h3];rfl
                      rw[e,tZ,List.length_append,List.length_singleton,cj.out,b1.out,eb.out,List.drop_drop,List.drop_drop,List.drop_drop]
                    have e8:Hid (aj.drop bc=M.drop (U+(a1+(a6+bc)))):=by
                      show _=_;rw[cj.out,b1.out,eb.out,List.drop_drop,List.drop_drop,List.drop_drop]
                    clear h3 c8 c7;go_wp2_with fail
                    go_region_law (first
                      | (refine bE (.tmp 17) 154 (by rfl) (by rfl) (by rfl) Tryz.func140 (by kernel_rfl) (by rfl) bd.out ?_;intro e w1 y;obtain⟨v,J,z,D,o⟩:=y.good;clear y
                         replace z:v=.int .i64 (a0:Nat):=z
                         subst z;refine⟨_,J,?_⟩;clear J;rw[<-b1.out] at D;have Z:=xX (K.out.step o D);have cx:w1.cell? ⟨X,3,none⟩=some (.slice q es.length d):=aa Z.out.bX 3;clear o D)
                      | (refine bE (.tmp 19) 154 (by rfl) (by rfl) (by rfl) Tryz.func140 (by kernel_rfl) (by rfl) (bs.out w1 Z.out.rd) ?_;intro e E y;obtain⟨v,J,z,D,o⟩:=y.good;clear y
                         replace z:v=.int .i64 (a3:Nat):=z
                         subst z;refine⟨_,J,?_⟩;clear J;rw[<-cj.out] at D;have a5:=xX (Z.out.step o D);have e3:E.cell? ⟨X,3,none⟩=some (.slice q es.length d):=aa a5.out.bX 3;clear o D)
                      | (refine bE (.tmp 21) 154 (by rfl) (by rfl) (by rfl) Tryz.func140 (by kernel_rfl) (by rfl) (cb.out E a5.out.rd) ?_;intro e W y;obtain⟨v,J,z,D,o⟩:=y.good;clear y
                         replace z:v=.int .i64 (bp:Nat):=z
                         subst z;refine⟨_,J,?_⟩;clear J;have cc:=xX (a5.out.step o D);have gh:W.cell? ⟨X,3,none⟩=some (.slice q es.length d):=aa cc.out.bX 3;have hh:∀I,(W.alloc I).cell? ⟨X,3,none⟩=some (.slice q es.length d):=fun I=>ac (xY.alloc xZ I) gh;have g5:=cc.out.size;clear o D)
                      | (refine fm (B:=X+1) (es:=es) (v:=.slice q es.length d) (by exact cc.out.own.on xV) ⟨a0,a3,bp⟩ (ad:=W.1.size) (by exact ag W _) (by omega) (by simp;omega) (H:=W.1.size+1) (by simp) (.tmp 16) (.tmp 24) (by rfl) (by rfl) (by rfl) (by rfl) ?_;intro f2 f0 w4 e1 eL _;have cw:=cc.out.more e1 eL;have hf:w4.cell? ⟨X,3,none⟩=some (.slice q es.length d):=aa cw.1 3;have hg:=ab cw.1 3;have e6:=xX cw.2;clear cw e1 eL)
                      |fail)
                    all_goals
                      go_wp2;go_roundw;case rel=>
                        refine⟨es++[⟨a0,a3,bp⟩],U+(a1+(a6+bc)),some ⟨f2,0,none⟩,f0,by simp;omega,by rw[List.length_append,List.length_singleton];go_num,?_,e4.out⟩;have:=e6.out;rw[e8.out] at this;simpa using this
                      case measure=>simp[intOf];omega
            · have g0:¬(es.length:Int)<(m:Int):=(by omega);have e2:es.length=m:=(by omega);have b3:Hid (r=if (M.drop U).length=0 then .ok (nZ a b c es) else .error 5):=by
                show _=_;rw[ec.out,bT.out,e2,Nat.sub_self];simp[Fr.rdE,shE,ao]
              obtain⟨gf,c1,dv,-,-,-⟩:=K.out.rd.out;obtain⟨b5,eC⟩:∃b5,b5=(M.drop U).length:=⟨_,rfl⟩;rw[<-eC] at dv b3;have he:wr.cell? ⟨R,0,none⟩=some (.slice gf b5 c1):=aa dv 0;have cv:=K.out.bX;have u0:wr.cell? ⟨X,0,none⟩=some (.int .i64 a):=aa cv 0;have u1:wr.cell? ⟨X,1,none⟩=some (.int .i64 b):=aa cv 1;have u2:wr.cell? ⟨X,2,none⟩=some (.int .i64 c):=aa cv 2;have bb:=K.out.bO;obtain⟨hi,hj,hk,hl⟩:=cQ4 bb;have hm:=ab bb 0;have hn:=ab bb 1;have ho:=ab bb 2;have hp:=ab bb 3;have e7:=xX bb;clear eC dv cv bb ci bT e2;by_cases cq:b5=0
              · have fo:Hid (r=.ok (nZ a b c es)):=b3.out.trans (if_pos cq);subst cq;clear b3;go_wp2_with fail;refine(iu _ 5 _).mono ?_;rintro e w5 ⟨rfl,b8⟩;rw[b8];clear b8 w5;go_wp2;have fs:(wr.setCell ⟨w.1.size,0,none⟩ (.int .i64 a)).1[w.1.size]?=some (.cells #[.int .i64 a,.int .i64 0,.int .i64 0,.slice none 0 0] 126 (0,0)):=an e7.out 0 _;have fv:((wr.setCell ⟨w.1.size,0,none⟩ (.int .i64 a)).setCell ⟨w.1.size,1,none⟩ (.int .i64 b)).1[w.1.size]?=some (.cells #[.int .i64 a,.int .i64 b,.int .i64 0,.slice none 0 0] 126 (0,0)):=an fs 1 _;have fx:(((wr.setCell ⟨w.1.size,0,none⟩ (.int .i64 a)).setCell ⟨w.1.size,1,none⟩ (.int .i64 b)).setCell ⟨w.1.size,2,none⟩ (.int .i64 c)).1[w.1.size]?=some (.cells #[.int .i64 a,.int .i64 b,.int .i64 c,.slice none 0 0] 126 (0,0)):=an fv 2 _;have fy:((((wr.setCell ⟨w.1.size,0,none⟩ (.int .i64 a)).setCell ⟨w.1.size,1,none⟩ (.int .i64 b)).setCell ⟨w.1.size,2,none⟩ (.int .i64 c)).setCell ⟨w.1.size,3,none⟩ (.slice q es.length d)).1[w.1.size]?=some (.cells #[.int .i64 a,.int .i64 b,.int .i64 c,.slice q es.length d] 126 (0,0)):=an fx 3 _;have ep:Aside (fun i=>i=w.1.size) wr ((((wr.setCell ⟨w.1.size,0,none⟩ (.int .i64 a)).setCell ⟨w.1.size,1,none⟩ (.int .i64 b)).setCell ⟨w.1.size,2,none⟩ (.int .i64 c)).setCell ⟨w.1.size,3,none⟩ (.slice q es.length d)):=(((ai wr w.1.size 0 _).trans (ai _ w.1.size 1 _) (fun _ _ h=>h)).trans (ai _ w.1.size 2 _) (fun _ _ h=>h)).trans (ai _ w.1.size 3 _) (fun _ _ h=>h)
                refine bodyPost_ret (v:=.agg #[.int .i64 a,.int .i64 b,.int .i64 c,.slice q es.length d]) (results_cell_row rfl _ _ w.1.size _ _ _ _ rfl fy Tryz.underlying126 rfl (by kernel_rfl)) rfl ?_;rw[fo.out];refine⟨_,rfl,⟨q,d,rfl,?_⟩,?_⟩
                · exact(K.out.own.aside ep (fun k f5 gz=>by have:=(K.out.own.lt k f5).1;omega)).low (by omega)
                · exact K.out.aside.trans ep (fun i gN h=>by omega)
              · have a2:Hid (r=.error 5):=b3.out.trans (if_neg cq);have gq:((b5:Int)==0)=false:=aK (by omega);clear b3 cq;go_wp2_with fail;refine(fQ _ 5 _).mono ?_;rintro e w5 ⟨rfl,b8⟩;rw[b8];clear b8 w5;go_wp2;rw[a2.out];exact⟨rfl,rfl,K.out.aside⟩
end Go.Proofs.YtdkammppnkhhoaaGreatDoor
