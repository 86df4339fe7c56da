import Derived.Test.YtngmnfdaedlodaaGreatDoorB23
set_option maxRecDepth 100000
set_option maxHeartbeats 4000000
namespace Go.Proofs.YtngmnfdaedlodaaGreatDoor
open Go.Proofs.Tryz
open Go.Value renaming int->I,slice->O
open Go.IntKind renaming i64->U
open Option renaming none->Y,some->C
open Go.RowKit renaming Hid->F
open Except renaming error->N
open Go.Obj renaming cells->qj
variable{A R X a c:Nat}{w:World}{l:L8}{v:Value}{es:List Ent}
open Go.RowKit
def oU(a b c:Nat)(es:List Ent):Fr:={ Fr0 with kind:=3,index:=⟨a,b,c,es⟩ }
theorem xJ(l:L8):Fr.rdI l=ap (Fr.nb 1099511627776 l) fun a k=>ap (Fr.nb 1099511627776 (l.drop k)) fun b o=>ap (Fr.nb 1099511627776 ((l.drop k).drop o)) fun c k3=>ap (Fr.nb 65 (((l.drop k).drop o).drop k3)) fun m D=>ap (Fr.rdE m ((((l.drop k).drop o).drop k3).drop D)) fun es j=>if (((((l.drop k).drop o).drop k3).drop D).drop j).length=0 then .ok (oU a b c es) else N 5:=by
 have E:∀{Q:Nat} {l:L8} {n k:Nat},Fr.nb Q l=.ok (n,k)->k<=l.length:=by
  intro Q l n k h;obtain⟨_,r,K,L⟩:=Fr.nb_ok h;rw[K,L,AU];omega
 unfold Fr.rdI;rw[yZ];cases K:Fr.nb 1099511627776 l with
 |error e=>rfl
 |ok p=>
  obtain⟨x,k⟩:=p;dsimp only[ap];cases L:Fr.nb 1099511627776 (l.drop k) with
  |error e=>rfl
  |ok p=>
   obtain⟨y,o⟩:=p;dsimp only[ap];cases h3:Fr.nb 1099511627776 ((l.drop k).drop o) with
   |error e=>rfl
   |ok p=>
    obtain⟨z,k3⟩:=p;dsimp only[ap];cases h4:Fr.nb 65 (((l.drop k).drop o).drop k3) with
    |error e=>rfl
    |ok p=>
     obtain⟨t,D⟩:=p;dsimp only[ap];rw[xu];simp only[List.getD_cons_zero,List.getD_cons_succ];cases h5:Fr.rdE t ((((l.drop k).drop o).drop k3).drop D) with
     |error e=>rfl
     |ok p=>
      obtain⟨es,j⟩:=p;dsimp only;have S:=E K;have V:=E L;have Z:=E h3;have ab:=E h4;obtain⟨_,_,a0,ah,aw⟩:=Fr.rdE_ok _ _ _ _ h5;have aj:=congrArg List.length ah;simp only[AU,Aj] at S V Z ab aj;have M:(k+(o+(k3+(D+0)))+j=l.length)↔((((((l.drop k).drop o).drop k3).drop D).drop j).length=0):=by
       simp only[Aj];omega
      by_cases J:k+(o+(k3+(D+0)))+j=l.length
      ·rw[AK J,AK (M.1 J)];rfl
      ·rw[AJ J,AJ (fun ak=>J (M.2 ak))]
def shE(es:List Ent)(J:Nat):Except Nat (List Ent×Nat)->Except Nat (List Ent×Nat)
 |N e=>N e
 |.ok (fs,j)=>.ok (es++fs,J+j)
theorem vE(a b:List Ent)(i j:Nat)(r:Except Nat (List Ent×Nat)):shE a i (shE b j r)=shE (a++b) (i+j) r:=by
 cases r with
 |error e=>rfl
 |ok p=>simp[shE,Nat.add_assoc]
theorem mN(m:Nat)(l:L8):Fr.rdE (m+1) l=ap (Fr.nb 1099511627776 l) fun a k=>ap (Fr.nb 1099511627776 (l.drop k)) fun b o=>ap (Fr.nb 1099511627776 ((l.drop k).drop o)) fun c y=>shE [⟨a,b,c⟩] (k+(o+y)) (Fr.rdE m (((l.drop k).drop o).drop y)):=by
 rw[Fr.rdE];unfold Fr.nbs;cases Fr.nb 1099511627776 l with
 |error e=>rfl
 |ok p=>
  obtain⟨x,k⟩:=p;dsimp only[ap];unfold Fr.nbs;cases Fr.nb 1099511627776 (l.drop k) with
  |error e=>rfl
  |ok p=>
   obtain⟨D,o⟩:=p;dsimp only[ap];unfold Fr.nbs;cases Fr.nb 1099511627776 ((l.drop k).drop o) with
   |error e=>rfl
   |ok p=>
    obtain⟨z,y⟩:=p;dsimp only[ap];unfold Fr.nbs;dsimp only;rw[show l.drop (k+(o+(y+0)))=((l.drop k).drop o).drop y by rw[AI,AI,Nat.add_zero]];cases Fr.rdE m (((l.drop k).drop o).drop y) with
    |error e=>rfl
    |ok q=>rfl
theorem RdB.undrew{E:Type}{w w':World}{A R:Nat}{l:L8}{r:Except Nat (E×Nat)}{V:E->Value->World->Prop}{e:Ending}(h:RdB w.drew A R l r V e w'):RdB w A R l r V e w':=by
 cases r with
 |error k=>
  obtain⟨D,o⟩:=h.bad;exact⟨D,⟨o.os,o.tape,o.output,o.size,o.block⟩⟩
 |ok aj=>
  obtain⟨a,j⟩:=aj;obtain⟨v,D,o,J,y⟩:=h.good;exact⟨v,D,o,J,⟨y.os,y.tape,y.output,y.size,y.block⟩⟩
structure iM(w wr:World)(A R X:Nat)(a b c:Nat)(v:Value)(es:List Ent)(l:L8):Prop where
 bO:wr.1[w.1.size]?=C (qj #[I U 0,I U 0,I U 0,O Y 0 0] 147 (0,0))
 bX:wr.1[X]?=C (qj #[I U a,I U b,I U c,v] 50 (0,0))
 own:bK wr (X+1) v es
 rd:cm wr A R l
 aside:Aside (fun i=>i=R) w wr
 size:X+1<=wr.1.size
 low:w.1.size<X∧R<w.1.size
theorem iM.step{wr y:World}{b:Nat}{D:L8}(h:iM w wr A R X a b c v es l)(o:Aside (fun i=>i=R) wr y)(K:cm y A R D):iM w y A R X a b c v es D:=by
 have J:=h.low;have L:=h.size;exact⟨(o.block _ (by omega) (by omega)).trans h.bO,(o.block _ (by omega) (by omega)).trans h.bX,h.own.aside o (fun k E M=>by have:=(h.own.lt k E).1;omega),K,h.aside.trans o (fun _ _ h=>h),AG L o.size,J⟩
theorem iM.more{E w4:World}{b g cap:Nat}{x:Ent}{M:Obj}(h:iM w E A R X a b c v es l)(L:bK w4 (X+1) (O (C ⟨g,0,Y⟩) (es.length+1) cap) (es++[x]))(D:(E.alloc M).grownBy w4 v.ownBlock):
  w4.1[X]?=C (qj #[I U a,I U b,I U c,v] 50 (0,0))∧iM w (w4.setCell ⟨X,3,Y⟩ (O (C ⟨g,0,Y⟩) (es.length+1) cap)) A R X a b c (O (C ⟨g,0,Y⟩) (es.length+1) cap) (es++[x]) l:=by
 have V:=h.low;have ah:=h.size;have aj:(E.alloc M).1.size=E.1.size+1:=by simp
 have ab:=D.size;have J:∀k,k<=X->w4.1[k]?=E.1[k]?:=fun k y=>by
  rw[D.block k (by omega) (fun Q=>by have:=(h.own.lt k Q.symm).1;omega)];exact ax _ _ (by omega)
 have K:=(J X gQx).trans h.bX;have o:Aside (fun i=>i=X) w4 (w4.setCell ⟨X,3,Y⟩ (O (C ⟨g,0,Y⟩) (es.length+1) cap)):=al _ _ _ _;refine⟨K,?_,?_,?_,?_,?_,?_,V⟩
 ·rw[o.block _ (by omega) (by omega),J _ (by omega)];exact h.bO
 ·have:=an K 3 (O (C ⟨g,0,Y⟩) (es.length+1) cap);exact this
 ·exact L.aside o (fun k y Z=>by have:=(L.lt k y).1;omega)
 ·exact(h.rd.keep (w':=w4) (fun k y=>J k (by omega)) (by omega)).aside o (fun k y=>by omega)
 ·refine⟨?_,?_,?_,?_,fun k y S=>?_⟩
  ·exact D.os.trans h.aside.os
  ·exact D.tape.trans h.aside.tape
  ·exact D.output.trans h.aside.output
  ·have:=h.aside.size;have:=o.size;omega
  ·have:=h.aside.size;rw[o.block _ (by omega) (by omega),J _ (by omega)];exact h.aside.block k y S
 ·have:=o.size;omega
theorem lA(l:L8)(A R:Nat)(w:World)(h:cm w A R l):Calls Tryz.prog 77 #[.pointer (C ⟨R,0,Y⟩)] w (fX w R (Fr.rdI l) (ua w.1.size)):=by
  obtain⟨w0,b8⟩:∃w0,w0=w.alloc (qj #[I U 0,I U 0,I U 0,O Y 0 0] 147):=⟨_,rfl⟩;have g5:w0.1.size=w.1.size+1:=by rw[b8];simp
  have d3:F (Below w.1.size w w0):=by rw[b8];exact gQy
  have d4:F (w0.1[w.1.size]?=C (qj #[I U 0,I U 0,I U 0,O Y 0 0] 147 (0,0))):=by show _=_;rw[b8];exact am w _
  have fc:F (w.alloc (qj #[I U 0,I U 0,I U 0,O Y 0 0] 147)=w0):=by rw[b8];exact rfl
  have eb:=gQq (h.on d3.out);have fy:=h.lt;obtain⟨r,dv⟩:∃r,r=Fr.rdI l:=⟨_,rfl⟩;have b3:=gQq (dv.trans (xJ l));rw[<-dv];have cw:F (Aside (fun i=>i=R) w w0):=af d3.out _;obtain⟨b5,em⟩:∃b5,b5=l:=⟨_,rfl⟩;rw[<-em] at eb b3;clear dv h b8 em;go_enter func77,ntmps77;have Q:=gQq (eZ b5 A R w0 eb.out);obtain⟨f5,ez⟩:∃m,m=Fr.nb 1099511627776 b5:=⟨_,rfl⟩;rw[<-ez] at Q b3;clear ez;go_wp2_with fail;rw[fc.out];refine Q.out.mono ?_;intro e w1 y;cases f5 with
  |error er=>
    have a4:F (r=N er):=b3.out;obtain⟨he,o⟩:=y.bad;subst he;have a9:=gQq (cw.out.trans o (fun _ _ h=>h));clear y o Q;go_wp2;rw[a4.out];exact⟨rfl,rfl,a9.out⟩
  |ok nk=>
    obtain⟨a,f3⟩:=nk;obtain⟨v,he,D,E,o⟩:=y.good
    replace D:v=I U (a:Nat):=D
    subst D;subst he;have bb:=gQq (cw.out.trans o (fun _ _ h=>h));have d5:F (w1.1[w.1.size]?=C (qj #[I U 0,I U 0,I U 0,O Y 0 0] 147 (0,0))):=(o.block _ (by omega) (by omega)).trans d4.out;have g6:w.1.size+1<=w1.1.size:=(by have:=o.size;omega);have bl:=gQq (show r=_ from b3.out);dsimp only[ap] at bl;obtain⟨c7,en⟩:∃L,L=b5.drop f3:=⟨_,rfl⟩;rw[<-en] at bl E;have e7:=gQq E;clear y o E Q en b3 cw d4;have Q:=gQq (eZ c7 A R w1 e7.out);obtain⟨f6,eC⟩:∃m,m=Fr.nb 1099511627776 c7:=⟨_,rfl⟩;rw[<-eC] at Q bl;clear eC;go_wp2_with fail;refine Q.out.mono ?_;intro e J y;cases f6 with
    |error er=>
      have a4:F (r=N er):=bl.out;obtain⟨he,o⟩:=y.bad;subst he;have a9:=gQq (bb.out.trans o (fun _ _ h=>h));clear y o Q;go_wp2;rw[a4.out];exact⟨rfl,rfl,a9.out⟩
    |ok nk=>
      obtain⟨b,f4⟩:=nk;obtain⟨v,he,D,E,o⟩:=y.good
      replace D:v=I U (b:Nat):=D
      subst D;subst he;have bv:=gQq (bb.out.trans o (fun _ _ h=>h));have d6:F (J.1[w.1.size]?=C (qj #[I U 0,I U 0,I U 0,O Y 0 0] 147 (0,0))):=(o.block _ (by omega) (by omega)).trans d5.out;have g7:w.1.size+1<=J.1.size:=(by have:=o.size;omega);have bn:=gQq (show r=_ from bl.out);dsimp only[ap] at bn;obtain⟨c8,ep⟩:∃L,L=c7.drop f4:=⟨_,rfl⟩;rw[<-ep] at bn E;have e8:=gQq E;clear y o E Q ep bl bb d5;have Q:=gQq (eZ c8 A R J e8.out);obtain⟨f7,eL⟩:∃m,m=Fr.nb 1099511627776 c8:=⟨_,rfl⟩;rw[<-eL] at Q bn;clear eL;go_wp2_with fail;refine Q.out.mono ?_;intro e ah y;cases f7 with
      |error er=>
        have a4:F (r=N er):=bn.out;obtain⟨he,o⟩:=y.bad;subst he;have a9:=gQq (bv.out.trans o (fun _ _ h=>h));clear y o Q;go_wp2;rw[a4.out];exact⟨rfl,rfl,a9.out⟩
      |ok nk=>
        obtain⟨c,ab⟩:=nk;obtain⟨v,he,D,E,o⟩:=y.good
        replace D:v=I U (c:Nat):=D
        subst D;subst he;have d2:=gQq (bv.out.trans o (fun _ _ h=>h));have d7:F (ah.1[w.1.size]?=C (qj #[I U 0,I U 0,I U 0,O Y 0 0] 147 (0,0))):=(o.block _ (by omega) (by omega)).trans d6.out;have g8:w.1.size+1<=ah.1.size:=(by have:=o.size;omega);have bp:=gQq (show r=_ from bn.out);dsimp only[ap] at bp;obtain⟨cp,eq⟩:∃L,L=c8.drop ab:=⟨_,rfl⟩;rw[<-eq] at bp E;have ec:=gQq E;clear y o E Q eq bn bv d6;obtain⟨bq,cb⟩:∃bq,bq=ah.alloc (qj #[I U a,I U b,I U c,O Y 0 0] 50):=⟨_,rfl⟩;have eg:F (ah.alloc (qj #[I U a,I U b,I U c,O Y 0 0] 50)=bq):=(by rw[cb];exact rfl);have b1:F (iM w bq A R ah.1.size a b c (O Y 0 0) [] cp):=by
          have hb:Below ah.1.size ah bq:=(by rw[cb];exact gQy);refine⟨(hb.block _ (by omega)).trans d7.out,by rw[cb];exact am ah _,fe _ _,ec.out.on hb,d2.out.trans (af hb (fun i=>i=R)) (fun _ _ h=>h),by rw[cb];simp,by omega,fy⟩
        obtain⟨X,df⟩:∃X,X=ah.1.size:=⟨_,rfl⟩;rw[<-df] at b1;clear cb;have Q:=gQq (gB 65 (by omega) cp A R bq b1.out.rd);obtain⟨f8,du⟩:∃m,m=Fr.nb 65 cp:=⟨_,rfl⟩;rw[<-du] at Q bp;have d8:=gQq du;clear du;go_wp2_with fail;rw[eg.out];refine Q.out.mono ?_;intro e w4 y;cases f8 with
        |error er=>
          have a4:F (r=N er):=bp.out;obtain⟨he,o⟩:=y.bad;subst he;have a9:=gQq (b1.out.aside.trans o (fun _ _ h=>h));clear y o Q;go_wp2;rw[a4.out];exact⟨rfl,rfl,a9.out⟩
        |ok nk=>
          obtain⟨m,V⟩:=nk;obtain⟨v,he,D,E,o⟩:=y.good
          replace D:v=I U (m:Nat):=D
          subst D;subst he;have g2:m<65:=(Fr.nb_ok d8.out.symm).1;obtain⟨S,c9⟩:∃L,L=cp.drop V:=⟨_,rfl⟩;rw[<-c9] at E;have e3:=gQq (b1.out.step o E);have ea:F (r=ap (Fr.rdE m S) fun es j=>if (S.drop j).length=0 then .ok (oU a b c es) else N 5):=by
            show _=_;rw[c9];exact bp.out
          clear y o E Q c9 bp d2 d7 b1 eg d8 ec;go_wp2_with fail;rw[<-df];clear df;go_loopw [13] (fun d0 wr=>∃(es:List Ent) (Z:Nat) (q:OA) (d:Nat),es.length<=m∧d0=I U es.length∧F (iM w wr A R X a b c (O q es.length d) es (S.drop Z)∧Fr.rdE m S=shE es Z (Fr.rdE (m-es.length) (S.drop Z)))) (fun d0 _=>m-(intOf d0).toNat);case atStart=>
            refine⟨[],0,Y,0,by simp,rfl,e3.out,?_⟩;rw[List.length_nil,Nat.sub_zero,List.drop_zero];cases Fr.rdE m S with
            |error e=>rfl
            |ok q=>simp[shE]
          case round=>
            obtain⟨es,Z,q,d,gt,rfl,ci⟩:=hrel;have M:=gQq ci.out.1;have b0:=gQq ci.out.2;have dj:=aa M.out.bX 3
            replace dj:wr.cell? ⟨X,3,Y⟩=C (O q es.length d):=dj
            have f0:=ac M.out.bX 3;have gN:=M.out.low;have g4:=M.out.size;have gn:∀K,(wr.alloc K).cell? ⟨X,3,Y⟩=C (O q es.length d):=fun K=>ae (gQz.alloc gQx K) dj;have gq:∀K,(wr.alloc K).frozen? ⟨X,3,Y⟩=false:=fun K=>(((Below.refl wr.1.size wr).alloc gQx K).frozen (p:=⟨X,3,Y⟩) (by show X<_;omega)).trans f0;by_cases g0:es.length<m
            · have g1:(es.length:Int)<(m:Int):=(by omega);obtain⟨aj,b7⟩:∃aj,aj=S.drop Z:=⟨_,rfl⟩;have cn:F (r=ap (shE es Z (ap (Fr.nb 1099511627776 aj) fun a k=>ap (Fr.nb 1099511627776 (aj.drop k)) fun b ab=>ap (Fr.nb 1099511627776 ((aj.drop k).drop ab)) fun c V=>shE [⟨a,b,c⟩] (k+(ab+V)) (Fr.rdE (m-(es.length+1)) (((aj.drop k).drop ab).drop V)))) fun es j=>if (S.drop j).length=0 then .ok (oU a b c es) else N 5):=by
                show _=_;rw[ea.out,b0.out,show m-es.length=(m-(es.length+1))+1 by omega,mN,b7]
              have cx:F (Fr.rdE m S=shE es Z (ap (Fr.nb 1099511627776 aj) fun a k=>ap (Fr.nb 1099511627776 (aj.drop k)) fun b ab=>ap (Fr.nb 1099511627776 ((aj.drop k).drop ab)) fun c V=>shE [⟨a,b,c⟩] (k+(ab+V)) (Fr.rdE (m-(es.length+1)) (((aj.drop k).drop ab).drop V)))):=by
                show _=_;rw[b0.out,show m-es.length=(m-(es.length+1))+1 by omega,mN,b7]
              have d9:=gQq b7;rw[<-b7] at M;have bj:F (Calls Tryz.prog 104 #[.pointer (C ⟨R,0,Y⟩)] wr.drew (RdB wr A R aj (Fr.nb 1099511627776 aj) isI)):=(eZ aj A R wr.drew M.out.rd.drew).mono fun _ _ h=>h.undrew;clear b7 ci b0;cases h1:Fr.nb 1099511627776 aj with
              |error er=>
                rw[h1] at bj;have bT:F (∀J,Aside (fun i=>i=R) wr J->fX w R r (ua w.1.size) (.panicked (dl er)) J):=fun J o=>by
                  have e:r=N er:=(by rw[cn.out,h1];rfl);rw[e];exact⟨rfl,M.out.aside.trans o (fun _ _ h=>h)⟩
                clear h1 cn cx;go_wp2_with fail
                go_region_law (first|(refine bS (.tmp 17) 148 (by rfl) (by rfl) (by rfl) func104 (by kernel_rfl) (by rfl) bj.out (fun e J y=>⟨_,y.bad.1,rfl,bT.out J y.bad.2⟩) (I U 0) ?_;intro a6)|(refine bh a6 (I U 0) ?_)|fail)
                all_goals exact a6.out.elim
              |ok ak=>
                obtain⟨a2,a3⟩:=ak;rw[h1] at bj;obtain⟨a0,cr⟩:∃a0,a0=aj.drop a3:=⟨_,rfl⟩;have bN:F (∀w1,cm w1 A R a0->Calls Tryz.prog 104 #[.pointer (C ⟨R,0,Y⟩)] w1 (RdB w1 A R a0 (Fr.nb 1099511627776 a0) isI)):=fun w1 h=>eZ a0 A R w1 h;have co:F (r=ap (shE es Z (ap (Fr.nb 1099511627776 a0) fun b ab=>ap (Fr.nb 1099511627776 (a0.drop ab)) fun c V=>shE [⟨a2,b,c⟩] (a3+(ab+V)) (Fr.rdE (m-(es.length+1)) ((a0.drop ab).drop V)))) fun es j=>if (S.drop j).length=0 then .ok (oU a b c es) else N 5):=by
                  show _=_;rw[cn.out,h1,cr];rfl
                have cy:F (Fr.rdE m S=shE es Z (ap (Fr.nb 1099511627776 a0) fun b ab=>ap (Fr.nb 1099511627776 (a0.drop ab)) fun c V=>shE [⟨a2,b,c⟩] (a3+(ab+V)) (Fr.rdE (m-(es.length+1)) ((a0.drop ab).drop V)))):=by
                  show _=_;rw[cx.out,h1,cr];rfl
                have b2:=gQq cr;clear h1 cn cx cr;cases h2:Fr.nb 1099511627776 a0 with
                |error er=>
                  rw[h2] at bN;have bT:F (∀w1 J,Aside (fun i=>i=R) wr w1->Aside (fun i=>i=R) w1 J->fX w R r (ua w.1.size) (.panicked (dl er)) J):=fun w1 J o dr=>by
                    have e:r=N er:=(by rw[co.out,h2];rfl);rw[e];exact⟨rfl,(M.out.aside.trans o (fun _ _ h=>h)).trans dr (fun _ _ h=>h)⟩
                  clear h2 co cy;go_wp2_with fail
                  go_region_law (first
                    | (refine aN (.tmp 17) 148 (by rfl) (by rfl) (by rfl) func104 (by kernel_rfl) (by rfl) bj.out ?_;intro e w1 y;obtain⟨v,he,D,E,o⟩:=y.good;clear y
                       replace D:v=I U (a2:Nat):=D
                       subst D;refine⟨_,he,?_⟩;clear he;rw[<-b2.out] at E;have aw:=gQq (M.out.step o E);have bb:=gQq o;have cv:w1.cell? ⟨X,3,Y⟩=C (O q es.length d):=aa aw.out.bX 3;have d1:=ac aw.out.bX 3;have gd:∀K,(w1.alloc K).cell? ⟨X,3,Y⟩=C (O q es.length d):=fun K=>ae (gQz.alloc gQx K) cv;have gh:∀K,(w1.alloc K).frozen? ⟨X,3,Y⟩=false:=fun K=>(((Below.refl w1.1.size w1).alloc gQx K).frozen (p:=⟨X,3,Y⟩) (by show X<_;have:=aw.out.size;omega)).trans d1;clear o E)
                    | (refine bS (.tmp 19) 148 (by rfl) (by rfl) (by rfl) func104 (by kernel_rfl) (by rfl) (bN.out w1 aw.out.rd) (fun e J y=>⟨_,y.bad.1,rfl,bT.out w1 J bb.out y.bad.2⟩) (I U 0) ?_;intro a6)
                    | (refine bh a6 (I U 0) ?_)
                    |fail)
                  all_goals exact a6.out.elim
                |ok bk=>
                  obtain⟨a5,a8⟩:=bk;rw[h2] at bN;obtain⟨a1,cs⟩:∃a1,a1=a0.drop a8:=⟨_,rfl⟩;have cc:F (∀J,cm J A R a1->Calls Tryz.prog 104 #[.pointer (C ⟨R,0,Y⟩)] J (RdB J A R a1 (Fr.nb 1099511627776 a1) isI)):=fun J h=>eZ a1 A R J h;have c6:F (r=ap (shE es Z (ap (Fr.nb 1099511627776 a1) fun c V=>shE [⟨a2,a5,c⟩] (a3+(a8+V)) (Fr.rdE (m-(es.length+1)) (a1.drop V)))) fun es j=>if (S.drop j).length=0 then .ok (oU a b c es) else N 5):=by
                    show _=_;rw[co.out,h2,cs];rfl
                  have c5:F (Fr.rdE m S=shE es Z (ap (Fr.nb 1099511627776 a1) fun c V=>shE [⟨a2,a5,c⟩] (a3+(a8+V)) (Fr.rdE (m-(es.length+1)) (a1.drop V)))):=by
                    show _=_;rw[cy.out,h2,cs];rfl
                  have cj:=gQq cs;clear h2 co cy cs;cases h3:Fr.nb 1099511627776 a1 with
                  |error er=>
                    rw[h3] at cc;have bT:F (∀w1 J,Aside (fun i=>i=R) wr w1->Aside (fun i=>i=R) w1 J->fX w R r (ua w.1.size) (.panicked (dl er)) J):=fun w1 J o dr=>by
                      have e:r=N er:=(by rw[c6.out,h3];rfl);rw[e];exact⟨rfl,(M.out.aside.trans o (fun _ _ h=>h)).trans dr (fun _ _ h=>h)⟩
                    clear h3 c6 c5;go_wp2_with fail
                    go_region_law (first
                      | (refine aN (.tmp 17) 148 (by rfl) (by rfl) (by rfl) func104 (by kernel_rfl) (by rfl) bj.out ?_;intro e w1 y;obtain⟨v,he,D,E,o⟩:=y.good;clear y
                         replace D:v=I U (a2:Nat):=D
                         subst D;refine⟨_,he,?_⟩;clear he;rw[<-b2.out] at E;have aw:=gQq (M.out.step o E);have bb:=gQq o;have cv:w1.cell? ⟨X,3,Y⟩=C (O q es.length d):=aa aw.out.bX 3;have d1:=ac aw.out.bX 3;have gd:∀K,(w1.alloc K).cell? ⟨X,3,Y⟩=C (O q es.length d):=fun K=>ae (gQz.alloc gQx K) cv;have gh:∀K,(w1.alloc K).frozen? ⟨X,3,Y⟩=false:=fun K=>(((Below.refl w1.1.size w1).alloc gQx K).frozen (p:=⟨X,3,Y⟩) (by show X<_;have:=aw.out.size;omega)).trans d1;clear o E)
                      | (refine aN (.tmp 19) 148 (by rfl) (by rfl) (by rfl) func104 (by kernel_rfl) (by rfl) (bN.out w1 aw.out.rd) ?_;intro e J y;obtain⟨v,he,D,E,o⟩:=y.good;clear y
                         replace D:v=I U (a5:Nat):=D
                         subst D;refine⟨_,he,?_⟩;clear he;rw[<-cj.out] at E;have a7:=gQq (aw.out.step o E);have bv:=gQq (bb.out.trans o (fun _ _ h=>h));have z3:J.cell? ⟨X,3,Y⟩=C (O q es.length d):=aa a7.out.bX 3;have gl:=ac a7.out.bX 3;have ho:∀K,(J.alloc K).cell? ⟨X,3,Y⟩=C (O q es.length d):=fun K=>ae (gQz.alloc gQx K) z3;have hp:∀K,(J.alloc K).frozen? ⟨X,3,Y⟩=false:=fun K=>(((Below.refl J.1.size J).alloc gQx K).frozen (p:=⟨X,3,Y⟩) (by show X<_;have:=a7.out.size;omega)).trans gl;clear o E)
                      | (refine bS (.tmp 21) 148 (by rfl) (by rfl) (by rfl) func104 (by kernel_rfl) (by rfl) (cc.out J a7.out.rd) (fun e ah y=>⟨_,y.bad.1,rfl,bT.out J ah bv.out y.bad.2⟩) (I U 0) ?_;intro a6)
                      | (refine bh a6 (I U 0) ?_)
                      |fail)
                    all_goals exact a6.out.elim
                  |ok ck=>
                    obtain⟨bs,bi⟩:=ck;rw[h3] at cc;have e2:F (Fr.rdE m S=shE (es++[⟨a2,a5,bs⟩]) (Z+(a3+(a8+bi))) (Fr.rdE (m-(es++[(⟨a2,a5,bs⟩:Ent)]).length) (S.drop (Z+(a3+(a8+bi)))))):=by
                      show _=_;have e:Fr.rdE m S=shE es Z (shE [⟨a2,a5,bs⟩] (a3+(a8+bi)) (Fr.rdE (m-(es.length+1)) (a1.drop bi))):=by
                        rw[c5.out,h3];rfl
                      rw[e,vE,AU,AC,cj.out,b2.out,d9.out,AI,AI,AI]
                    have e6:F (a1.drop bi=S.drop (Z+(a3+(a8+bi)))):=by
                      show _=_;rw[cj.out,b2.out,d9.out,AI,AI,AI]
                    clear h3 c6 c5;go_wp2_with fail
                    go_region_law (first
                      | (refine aN (.tmp 17) 148 (by rfl) (by rfl) (by rfl) func104 (by kernel_rfl) (by rfl) bj.out ?_;intro e w1 y;obtain⟨v,he,D,E,o⟩:=y.good;clear y
                         replace D:v=I U (a2:Nat):=D
                         subst D;refine⟨_,he,?_⟩;clear he;rw[<-b2.out] at E;have aw:=gQq (M.out.step o E);have cv:w1.cell? ⟨X,3,Y⟩=C (O q es.length d):=aa aw.out.bX 3;clear o E)
                      | (refine aN (.tmp 19) 148 (by rfl) (by rfl) (by rfl) func104 (by kernel_rfl) (by rfl) (bN.out w1 aw.out.rd) ?_;intro e J y;obtain⟨v,he,D,E,o⟩:=y.good;clear y
                         replace D:v=I U (a5:Nat):=D
                         subst D;refine⟨_,he,?_⟩;clear he;rw[<-cj.out] at E;have a7:=gQq (aw.out.step o E);have z3:J.cell? ⟨X,3,Y⟩=C (O q es.length d):=aa a7.out.bX 3;clear o E)
                      | (refine aN (.tmp 21) 148 (by rfl) (by rfl) (by rfl) func104 (by kernel_rfl) (by rfl) (cc.out J a7.out.rd) ?_;intro e ah y;obtain⟨v,he,D,E,o⟩:=y.good;clear y
                         replace D:v=I U (bs:Nat):=D
                         subst D;refine⟨_,he,?_⟩;clear he;have cd:=gQq (a7.out.step o E);have gb:ah.cell? ⟨X,3,Y⟩=C (O q es.length d):=aa cd.out.bX 3;have hf:∀K,(ah.alloc K).cell? ⟨X,3,Y⟩=C (O q es.length d):=fun K=>ae (gQz.alloc gQx K) gb;have g3:=cd.out.size;clear o E)
                      | (refine jg (B:=X+1) (es:=es) (v:=O q es.length d) (by exact cd.out.own.on gQy) ⟨a2,a5,bs⟩ (ad:=ah.1.size) (by exact am ah _) (by omega) (by simp;omega) (H:=ah.1.size+1) (by simp) (.tmp 16) (.tmp 24) (by rfl) (by rfl) (by rfl) (by rfl) ?_;intro fx fv w4 e0 ew _;have cu:=cd.out.more e0 ew;have hc:w4.cell? ⟨X,3,Y⟩=C (O q es.length d):=aa cu.1 3;have sf3:=ac cu.1 3;have e4:=gQq cu.2;clear cu e0 ew)
                      |fail)
                    all_goals
                      go_wp2;go_roundw;case rel=>
                        refine⟨es++[⟨a2,a5,bs⟩],Z+(a3+(a8+bi)),C ⟨fx,0,Y⟩,fv,by simp;omega,by rw[AU,AC];go_num,?_,e2.out⟩;have:=e4.out;rw[e6.out] at this;simpa using this
                      case measure=>simp[intOf];omega
            · have gL:¬(es.length:Int)<(m:Int):=(by omega);have e1:es.length=m:=(by omega);have b4:F (r=if (S.drop Z).length=0 then .ok (oU a b c es) else N 5):=by
                show _=_;rw[ea.out,b0.out,e1,Nat.sub_self];simp[Fr.rdE,shE,ap]
              obtain⟨f9,c1,ds,-,-,-⟩:=M.out.rd.out;obtain⟨b6,ev⟩:∃b6,b6=(S.drop Z).length:=⟨_,rfl⟩;rw[<-ev] at ds b4;have ha:wr.cell? ⟨R,0,Y⟩=C (O f9 b6 c1):=aa ds 0;have ct:=M.out.bX;have u0:wr.cell? ⟨X,0,Y⟩=C (I U a):=aa ct 0;have u1:wr.cell? ⟨X,1,Y⟩=C (I U b):=aa ct 1;have u2:wr.cell? ⟨X,2,Y⟩=C (I U c):=aa ct 2;have be:=M.out.bO;obtain⟨hg,hh,hi,hj⟩:=cQ4 be;have hk:=ac be 0;have hl:=ac be 1;have hm:=ac be 2;have hn:=ac be 3;have e5:=gQq be;clear ev ds ct be ci b0 e1;by_cases cq:b6=0
              · have e9:F (r=.ok (oU a b c es)):=b4.out.trans (AK cq);subst cq;clear b4;go_wp2_with fail;refine(iW _ 5 _).mono ?_;rintro e w5 ⟨rfl,b9⟩;rw[b9];clear b9 w5;go_wp2;have fi:(wr.setCell ⟨w.1.size,0,Y⟩ (I U a)).1[w.1.size]?=C (qj #[I U a,I U 0,I U 0,O Y 0 0] 147 (0,0)):=an e5.out 0 _;have fo:((wr.setCell ⟨w.1.size,0,Y⟩ (I U a)).setCell ⟨w.1.size,1,Y⟩ (I U b)).1[w.1.size]?=C (qj #[I U a,I U b,I U 0,O Y 0 0] 147 (0,0)):=an fi 1 _;have fq:(((wr.setCell ⟨w.1.size,0,Y⟩ (I U a)).setCell ⟨w.1.size,1,Y⟩ (I U b)).setCell ⟨w.1.size,2,Y⟩ (I U c)).1[w.1.size]?=C (qj #[I U a,I U b,I U c,O Y 0 0] 147 (0,0)):=an fo 2 _;have fs:((((wr.setCell ⟨w.1.size,0,Y⟩ (I U a)).setCell ⟨w.1.size,1,Y⟩ (I U b)).setCell ⟨w.1.size,2,Y⟩ (I U c)).setCell ⟨w.1.size,3,Y⟩ (O q es.length d)).1[w.1.size]?=C (qj #[I U a,I U b,I U c,O q es.length d] 147 (0,0)):=an fq 3 _;have el:Aside (fun i=>i=w.1.size) wr ((((wr.setCell ⟨w.1.size,0,Y⟩ (I U a)).setCell ⟨w.1.size,1,Y⟩ (I U b)).setCell ⟨w.1.size,2,Y⟩ (I U c)).setCell ⟨w.1.size,3,Y⟩ (O q es.length d)):=(((al wr w.1.size 0 _).trans (al _ w.1.size 1 _) (fun _ _ h=>h)).trans (al _ w.1.size 2 _) (fun _ _ h=>h)).trans (al _ w.1.size 3 _) (fun _ _ h=>h)
                refine bodyPost_ret (v:=.agg #[I U a,I U b,I U c,O q es.length d]) (results_cell_row rfl _ _ w.1.size _ _ _ _ rfl fs underlying147 rfl (by kernel_rfl)) rfl ?_;rw[e9.out];refine⟨_,rfl,⟨q,d,rfl,?_⟩,?_⟩
                · exact(M.out.own.aside el (fun k f2 gs=>by have:=(M.out.own.lt k f2).1;omega)).low (by omega)
                · exact M.out.aside.trans el (fun i gz h=>by omega)
              · have a4:F (r=N 5):=b4.out.trans (AJ cq);have gm:((b6:Int)==0)=false:=bf (by omega);clear b4 cq;go_wp2_with fail;refine(gC _ 5 _).mono ?_;rintro e w5 ⟨rfl,b9⟩;rw[b9];clear b9 w5;go_wp2;rw[a4.out];exact⟨rfl,rfl,M.out.aside⟩
end Go.Proofs.YtngmnfdaedlodaaGreatDoor
