import Derived.Test.YtngmnfdaedlodaaGreatDoorB23
set_option maxRecDepth 100000
set_option maxHeartbeats 4000000
namespace Go.Proofs.YtngmnfdaedlodaaGreatDoor
open Go.Proofs.Tryz
open Go.Value renaming int->I,slice->O
open Go.IntKind renaming i64->U
open Option renaming none->Y,some->C
open Go.RowKit renaming Hid->F
open Except renaming error->N
open Go.Obj renaming cells->wx
variable{A R X a c:Nat}{w:World}{l:L8}{v:Value}{es:List Ent}
open Go.RowKit
def pd(a b c:Nat)(es:List Ent):Fr:={ Fr0 with kind:=3,index:=⟨a,b,c,es⟩ }
theorem xV(l:L8):Fr.rdI l=ar (Fr.nb 1099511627776 l) fun a k=>ar (Fr.nb 1099511627776 (l.drop k)) fun b o=>ar (Fr.nb 1099511627776 ((l.drop k).drop o)) fun c k3=>ar (Fr.nb 65 (((l.drop k).drop o).drop k3)) fun m D=>ar (Fr.rdE m ((((l.drop k).drop o).drop k3).drop D)) fun es j=>if (((((l.drop k).drop o).drop k3).drop D).drop j).length=0 then .ok (pd a b c es) else N 5:=by
 have E:∀{Q:Nat} {l:L8} {n k:Nat},Fr.nb Q l=.ok (n,k)->k<=l.length:=by
  intro Q l n k h;obtain⟨_,r,K,L⟩:=Fr.nb_ok h;rw[K,L,AH];omega
 unfold Fr.rdI;rw[zu];cases K:Fr.nb 1099511627776 l with
 |error e=>rfl
 |ok p=>
  obtain⟨x,k⟩:=p;dsimp only[ar];cases L:Fr.nb 1099511627776 (l.drop k) with
  |error e=>rfl
  |ok p=>
   obtain⟨y,o⟩:=p;dsimp only[ar];cases h3:Fr.nb 1099511627776 ((l.drop k).drop o) with
   |error e=>rfl
   |ok p=>
    obtain⟨z,k3⟩:=p;dsimp only[ar];cases h4:Fr.nb 65 (((l.drop k).drop o).drop k3) with
    |error e=>rfl
    |ok p=>
     obtain⟨t,D⟩:=p;dsimp only[ar];rw[xG];simp only[List.getD_cons_zero,List.getD_cons_succ];cases h5:Fr.rdE t ((((l.drop k).drop o).drop k3).drop D) with
     |error e=>rfl
     |ok p=>
      obtain⟨es,j⟩:=p;dsimp only;have S:=E K;have V:=E L;have Z:=E h3;have ab:=E h4;obtain⟨_,_,aw,ah,ak⟩:=Fr.rdE_ok _ _ _ _ h5;have ai:=congrArg List.length ah;simp only[AH,AL] at S V Z ab ai;have M:(k+(o+(k3+(D+0)))+j=l.length)↔((((((l.drop k).drop o).drop k3).drop D).drop j).length=0):=by
       simp only[AL];omega
      by_cases J:k+(o+(k3+(D+0)))+j=l.length
      ·rw[AG J,AG (M.1 J)];rfl
      ·rw[AF J,AF (fun aj=>J (M.2 aj))]
def shE(es:List Ent)(J:Nat):Except Nat (List Ent×Nat)->Except Nat (List Ent×Nat)
 |N e=>N e
 |.ok (fs,j)=>.ok (es++fs,J+j)
theorem vQ(a b:List Ent)(i j:Nat)(r:Except Nat (List Ent×Nat)):shE a i (shE b j r)=shE (a++b) (i+j) r:=by
 cases r with
 |error e=>rfl
 |ok p=>simp[shE,Nat.add_assoc]
theorem mV(m:Nat)(l:L8):Fr.rdE (m+1) l=ar (Fr.nb 1099511627776 l) fun a k=>ar (Fr.nb 1099511627776 (l.drop k)) fun b o=>ar (Fr.nb 1099511627776 ((l.drop k).drop o)) fun c y=>shE [⟨a,b,c⟩] (k+(o+y)) (Fr.rdE m (((l.drop k).drop o).drop y)):=by
 rw[Fr.rdE];unfold Fr.nbs;cases Fr.nb 1099511627776 l with
 |error e=>rfl
 |ok p=>
  obtain⟨x,k⟩:=p;dsimp only[ar];unfold Fr.nbs;cases Fr.nb 1099511627776 (l.drop k) with
  |error e=>rfl
  |ok p=>
   obtain⟨D,o⟩:=p;dsimp only[ar];unfold Fr.nbs;cases Fr.nb 1099511627776 ((l.drop k).drop o) with
   |error e=>rfl
   |ok p=>
    obtain⟨z,y⟩:=p;dsimp only[ar];unfold Fr.nbs;dsimp only;rw[show l.drop (k+(o+(y+0)))=((l.drop k).drop o).drop y by rw[Ax,Ax,Nat.add_zero]];cases Fr.rdE m (((l.drop k).drop o).drop y) with
    |error e=>rfl
    |ok q=>rfl
theorem RdB.undrew{E:Type}{w w':World}{A R:Nat}{l:L8}{r:Except Nat (E×Nat)}{V:E->Value->World->Prop}{e:Ending}(h:RdB w.drew A R l r V e w'):RdB w A R l r V e w':=by
 cases r with
 |error k=>
  obtain⟨D,o⟩:=h.bad;exact⟨D,⟨o.os,o.tape,o.output,o.size,o.block⟩⟩
 |ok aj=>
  obtain⟨a,j⟩:=aj;obtain⟨v,D,o,J,y⟩:=h.good;exact⟨v,D,o,J,⟨y.os,y.tape,y.output,y.size,y.block⟩⟩
structure iQ(w wr:World)(A R X:Nat)(a b c:Nat)(v:Value)(es:List Ent)(l:L8):Prop where
 bO:wr.1[w.1.size]?=C (wx #[I U 0,I U 0,I U 0,O Y 0 0] 147 (0,0))
 bX:wr.1[X]?=C (wx #[I U a,I U b,I U c,v] 50 (0,0))
 own:bL wr (X+1) v es
 rd:cz wr A R l
 aside:Aside (fun i=>i=R) w wr
 size:X+1<=wr.1.size
 low:w.1.size<X∧R<w.1.size
theorem iQ.step{wr y:World}{b:Nat}{D:L8}(h:iQ w wr A R X a b c v es l)(o:Aside (fun i=>i=R) wr y)(K:cz y A R D):iQ w y A R X a b c v es D:=by
 have J:=h.low;have L:=h.size;exact⟨(o.block _ (by omega) (by omega)).trans h.bO,(o.block _ (by omega) (by omega)).trans h.bX,h.own.aside o (fun k E M=>by have:=(h.own.lt k E).1;omega),K,h.aside.trans o (fun _ _ h=>h),AT L o.size,J⟩
theorem iQ.more{E w4:World}{b g cap:Nat}{x:Ent}{M:Obj}(h:iQ w E A R X a b c v es l)(L:bL w4 (X+1) (O (C ⟨g,0,Y⟩) (es.length+1) cap) (es++[x]))(D:(E.alloc M).grownBy w4 v.ownBlock):
  w4.1[X]?=C (wx #[I U a,I U b,I U c,v] 50 (0,0))∧iQ w (w4.setCell ⟨X,3,Y⟩ (O (C ⟨g,0,Y⟩) (es.length+1) cap)) A R X a b c (O (C ⟨g,0,Y⟩) (es.length+1) cap) (es++[x]) l:=by
 have V:=h.low;have ah:=h.size;have ai:(E.alloc M).1.size=E.1.size+1:=by simp
 have ab:=D.size;have J:∀k,k<=X->w4.1[k]?=E.1[k]?:=fun k y=>by
  rw[D.block k (by omega) (fun Q=>by have:=(h.own.lt k Q.symm).1;omega)];exact ay _ _ (by omega)
 have K:=(J X gQx).trans h.bX;have o:Aside (fun i=>i=X) w4 (w4.setCell ⟨X,3,Y⟩ (O (C ⟨g,0,Y⟩) (es.length+1) cap)):=am _ _ _ _;refine⟨K,?_,?_,?_,?_,?_,?_,V⟩
 ·rw[o.block _ (by omega) (by omega),J _ (by omega)];exact h.bO
 ·have:=ao K 3 (O (C ⟨g,0,Y⟩) (es.length+1) cap);exact this
 ·exact L.aside o (fun k y Z=>by have:=(L.lt k y).1;omega)
 ·exact(h.rd.keep (w':=w4) (fun k y=>J k (by omega)) (by omega)).aside o (fun k y=>by omega)
 ·refine⟨?_,?_,?_,?_,fun k y S=>?_⟩
  ·exact D.os.trans h.aside.os
  ·exact D.tape.trans h.aside.tape
  ·exact D.output.trans h.aside.output
  ·have:=h.aside.size;have:=o.size;omega
  ·have:=h.aside.size;rw[o.block _ (by omega) (by omega),J _ (by omega)];exact h.aside.block k y S
 ·have:=o.size;omega
theorem lI(l:L8)(A R:Nat)(w:World)(h:cz w A R l):Calls Tryz.prog 77 #[.pointer (C ⟨R,0,Y⟩)] w (ga w R (Fr.rdI l) (uj w.1.size)):=by
  obtain⟨w0,b7⟩:∃w0,w0=w.alloc (wx #[I U 0,I U 0,I U 0,O Y 0 0] 147):=⟨_,rfl⟩;have g4:w0.1.size=w.1.size+1:=by rw[b7];simp
  have d2:F (Below w.1.size w w0):=by rw[b7];exact gQy
  have d3:F (w0.1[w.1.size]?=C (wx #[I U 0,I U 0,I U 0,O Y 0 0] 147 (0,0))):=by show _=_;rw[b7];exact an w _
  have e9:F (w.alloc (wx #[I U 0,I U 0,I U 0,O Y 0 0] 147)=w0):=by rw[b7];exact rfl
  have ea:=gQq (h.on d2.out);have fx:=h.lt;obtain⟨r,du⟩:∃r,r=Fr.rdI l:=⟨_,rfl⟩;have b2:=gQq (du.trans (xV l));rw[<-du];have cv:F (Aside (fun i=>i=R) w w0):=af d2.out _;obtain⟨b4,el⟩:∃b4,b4=l:=⟨_,rfl⟩;rw[<-el] at ea b2;clear du h b7 el;go_enter func77,ntmps77;have Q:=gQq (fb b4 A R w0 ea.out);obtain⟨f4,ew⟩:∃m,m=Fr.nb 1099511627776 b4:=⟨_,rfl⟩;rw[<-ew] at Q b2;clear ew;go_wp2_with fail;rw[e9.out];refine Q.out.mono ?_;intro e w1 y;cases f4 with
  |error er=>
    have a3:F (r=N er):=b2.out;obtain⟨he,o⟩:=y.bad;subst he;have a8:=gQq (cv.out.trans o (fun _ _ h=>h));clear y o Q;go_wp2;rw[a3.out];exact⟨rfl,rfl,a8.out⟩
  |ok nk=>
    obtain⟨a,f2⟩:=nk;obtain⟨v,he,D,E,o⟩:=y.good
    replace D:v=I U (a:Nat):=D
    subst D;subst he;have a9:=gQq (cv.out.trans o (fun _ _ h=>h));have d4:F (w1.1[w.1.size]?=C (wx #[I U 0,I U 0,I U 0,O Y 0 0] 147 (0,0))):=(o.block _ (by omega) (by omega)).trans d3.out;have g5:w.1.size+1<=w1.1.size:=(by have:=o.size;omega);have bj:=gQq (show r=_ from b2.out);dsimp only[ar] at bj;obtain⟨c6,em⟩:∃L,L=b4.drop f2:=⟨_,rfl⟩;rw[<-em] at bj E;have e6:=gQq E;clear y o E Q em b2 cv d3;have Q:=gQq (fb c6 A R w1 e6.out);obtain⟨f5,ez⟩:∃m,m=Fr.nb 1099511627776 c6:=⟨_,rfl⟩;rw[<-ez] at Q bj;clear ez;go_wp2_with fail;refine Q.out.mono ?_;intro e J y;cases f5 with
    |error er=>
      have a3:F (r=N er):=bj.out;obtain⟨he,o⟩:=y.bad;subst he;have a8:=gQq (a9.out.trans o (fun _ _ h=>h));clear y o Q;go_wp2;rw[a3.out];exact⟨rfl,rfl,a8.out⟩
    |ok nk=>
      obtain⟨b,f3⟩:=nk;obtain⟨v,he,D,E,o⟩:=y.good
      replace D:v=I U (b:Nat):=D
      subst D;subst he;have bs:=gQq (a9.out.trans o (fun _ _ h=>h));have d5:F (J.1[w.1.size]?=C (wx #[I U 0,I U 0,I U 0,O Y 0 0] 147 (0,0))):=(o.block _ (by omega) (by omega)).trans d4.out;have g6:w.1.size+1<=J.1.size:=(by have:=o.size;omega);have bl:=gQq (show r=_ from bj.out);dsimp only[ar] at bl;obtain⟨c7,en⟩:∃L,L=c6.drop f3:=⟨_,rfl⟩;rw[<-en] at bl E;have e7:=gQq E;clear y o E Q en bj a9 d4;have Q:=gQq (fb c7 A R J e7.out);obtain⟨f6,eC⟩:∃m,m=Fr.nb 1099511627776 c7:=⟨_,rfl⟩;rw[<-eC] at Q bl;clear eC;go_wp2_with fail;refine Q.out.mono ?_;intro e ah y;cases f6 with
      |error er=>
        have a3:F (r=N er):=bl.out;obtain⟨he,o⟩:=y.bad;subst he;have a8:=gQq (bs.out.trans o (fun _ _ h=>h));clear y o Q;go_wp2;rw[a3.out];exact⟨rfl,rfl,a8.out⟩
      |ok nk=>
        obtain⟨c,ab⟩:=nk;obtain⟨v,he,D,E,o⟩:=y.good
        replace D:v=I U (c:Nat):=D
        subst D;subst he;have d1:=gQq (bs.out.trans o (fun _ _ h=>h));have d6:F (ah.1[w.1.size]?=C (wx #[I U 0,I U 0,I U 0,O Y 0 0] 147 (0,0))):=(o.block _ (by omega) (by omega)).trans d5.out;have g7:w.1.size+1<=ah.1.size:=(by have:=o.size;omega);have bn:=gQq (show r=_ from bl.out);dsimp only[ar] at bn;obtain⟨co,ep⟩:∃L,L=c7.drop ab:=⟨_,rfl⟩;rw[<-ep] at bn E;have eb:=gQq E;clear y o E Q ep bl bs d5;obtain⟨bp,b9⟩:∃bp,bp=ah.alloc (wx #[I U a,I U b,I U c,O Y 0 0] 50):=⟨_,rfl⟩;have ec:F (ah.alloc (wx #[I U a,I U b,I U c,O Y 0 0] 50)=bp):=(by rw[b9];exact rfl);have b0:F (iQ w bp A R ah.1.size a b c (O Y 0 0) [] co):=by
          have hb:Below ah.1.size ah bp:=(by rw[b9];exact gQy);refine⟨(hb.block _ (by omega)).trans d6.out,by rw[b9];exact an ah _,fg _ _,eb.out.on hb,d1.out.trans (af hb (fun i=>i=R)) (fun _ _ h=>h),by rw[b9];simp,by omega,fx⟩
        obtain⟨X,c9⟩:∃X,X=ah.1.size:=⟨_,rfl⟩;rw[<-c9] at b0;clear b9;have Q:=gQq (gE 65 (by omega) co A R bp b0.out.rd);obtain⟨f7,ds⟩:∃m,m=Fr.nb 65 co:=⟨_,rfl⟩;rw[<-ds] at Q bn;have d7:=gQq ds;clear ds;go_wp2_with fail;rw[ec.out];refine Q.out.mono ?_;intro e w4 y;cases f7 with
        |error er=>
          have a3:F (r=N er):=bn.out;obtain⟨he,o⟩:=y.bad;subst he;have a8:=gQq (b0.out.aside.trans o (fun _ _ h=>h));clear y o Q;go_wp2;rw[a3.out];exact⟨rfl,rfl,a8.out⟩
        |ok nk=>
          obtain⟨m,V⟩:=nk;obtain⟨v,he,D,E,o⟩:=y.good
          replace D:v=I U (m:Nat):=D
          subst D;subst he;have g1:m<65:=(Fr.nb_ok d7.out.symm).1;obtain⟨S,c8⟩:∃L,L=co.drop V:=⟨_,rfl⟩;rw[<-c8] at E;have e2:=gQq (b0.out.step o E);have d9:F (r=ar (Fr.rdE m S) fun es j=>if (S.drop j).length=0 then .ok (pd a b c es) else N 5):=by
            show _=_;rw[c8];exact bn.out
          clear y o E Q c8 bn d1 d6 b0 ec d7 eb;go_wp2_with fail;rw[<-c9];clear c9;go_loopw [13] (fun dv wr=>∃(es:List Ent) (Z:Nat) (q:OA) (d:Nat),es.length<=m∧dv=I U es.length∧F (iQ w wr A R X a b c (O q es.length d) es (S.drop Z)∧Fr.rdE m S=shE es Z (Fr.rdE (m-es.length) (S.drop Z)))) (fun dv _=>m-(intOf dv).toNat);case atStart=>
            refine⟨[],0,Y,0,by simp,rfl,e2.out,?_⟩;rw[List.length_nil,Nat.sub_zero,List.drop_zero];cases Fr.rdE m S with
            |error e=>rfl
            |ok q=>simp[shE]
          case round=>
            obtain⟨es,Z,q,d,gs,rfl,cd⟩:=hrel;have M:=gQq cd.out.1;have bT:=gQq cd.out.2;have df:=aa M.out.bX 3
            replace df:wr.cell? ⟨X,3,Y⟩=C (O q es.length d):=df
            have fy:=ac M.out.bX 3;have gL:=M.out.low;have g3:=M.out.size;have gm:∀K,(wr.alloc K).cell? ⟨X,3,Y⟩=C (O q es.length d):=fun K=>ae (gQz.alloc gQx K) df;have gn:∀K,(wr.alloc K).frozen? ⟨X,3,Y⟩=false:=fun K=>(((Below.refl wr.1.size wr).alloc gQx K).frozen (p:=⟨X,3,Y⟩) (by show X<_;omega)).trans fy;by_cases gN:es.length<m
            · have g0:(es.length:Int)<(m:Int):=(by omega);obtain⟨ai,b6⟩:∃ai,ai=S.drop Z:=⟨_,rfl⟩;have cj:F (r=ar (shE es Z (ar (Fr.nb 1099511627776 ai) fun a k=>ar (Fr.nb 1099511627776 (ai.drop k)) fun b ab=>ar (Fr.nb 1099511627776 ((ai.drop k).drop ab)) fun c V=>shE [⟨a,b,c⟩] (k+(ab+V)) (Fr.rdE (m-(es.length+1)) (((ai.drop k).drop ab).drop V)))) fun es j=>if (S.drop j).length=0 then .ok (pd a b c es) else N 5):=by
                show _=_;rw[d9.out,bT.out,show m-es.length=(m-(es.length+1))+1 by omega,mV,b6]
              have cw:F (Fr.rdE m S=shE es Z (ar (Fr.nb 1099511627776 ai) fun a k=>ar (Fr.nb 1099511627776 (ai.drop k)) fun b ab=>ar (Fr.nb 1099511627776 ((ai.drop k).drop ab)) fun c V=>shE [⟨a,b,c⟩] (k+(ab+V)) (Fr.rdE (m-(es.length+1)) (((ai.drop k).drop ab).drop V)))):=by
                show _=_;rw[bT.out,show m-es.length=(m-(es.length+1))+1 by omega,mV,b6]
              have d8:=gQq b6;rw[<-b6] at M;have bi:F (Calls Tryz.prog 104 #[.pointer (C ⟨R,0,Y⟩)] wr.drew (RdB wr A R ai (Fr.nb 1099511627776 ai) isI)):=(fb ai A R wr.drew M.out.rd.drew).mono fun _ _ h=>h.undrew;clear b6 cd bT;cases h1:Fr.nb 1099511627776 ai with
              |error er=>
                rw[h1] at bi;have bN:F (∀J,Aside (fun i=>i=R) wr J->ga w R r (uj w.1.size) (.panicked (dm er)) J):=fun J o=>by
                  have e:r=N er:=(by rw[cj.out,h1];rfl);rw[e];exact⟨rfl,M.out.aside.trans o (fun _ _ h=>h)⟩
                clear h1 cj cw;go_wp2_with fail
                go_region_law (first|(refine bU (.tmp 17) 148 (by rfl) (by rfl) (by rfl) func104 (by kernel_rfl) (by rfl) bi.out (fun e J y=>⟨_,y.bad.1,rfl,bN.out J y.bad.2⟩) (I U 0) ?_;intro a5)|(refine bm a5 (I U 0) ?_)|fail)
                all_goals exact a5.out.elim
              |ok ak=>
                obtain⟨a1,a2⟩:=ak;rw[h1] at bi;obtain⟨aw,cq⟩:∃aw,aw=ai.drop a2:=⟨_,rfl⟩;have bv:F (∀w1,cz w1 A R aw->Calls Tryz.prog 104 #[.pointer (C ⟨R,0,Y⟩)] w1 (RdB w1 A R aw (Fr.nb 1099511627776 aw) isI)):=fun w1 h=>fb aw A R w1 h;have cn:F (r=ar (shE es Z (ar (Fr.nb 1099511627776 aw) fun b ab=>ar (Fr.nb 1099511627776 (aw.drop ab)) fun c V=>shE [⟨a1,b,c⟩] (a2+(ab+V)) (Fr.rdE (m-(es.length+1)) ((aw.drop ab).drop V)))) fun es j=>if (S.drop j).length=0 then .ok (pd a b c es) else N 5):=by
                  show _=_;rw[cj.out,h1,cq];rfl
                have cx:F (Fr.rdE m S=shE es Z (ar (Fr.nb 1099511627776 aw) fun b ab=>ar (Fr.nb 1099511627776 (aw.drop ab)) fun c V=>shE [⟨a1,b,c⟩] (a2+(ab+V)) (Fr.rdE (m-(es.length+1)) ((aw.drop ab).drop V)))):=by
                  show _=_;rw[cw.out,h1,cq];rfl
                have b1:=gQq cq;clear h1 cj cw cq;cases h2:Fr.nb 1099511627776 aw with
                |error er=>
                  rw[h2] at bv;have bN:F (∀w1 J,Aside (fun i=>i=R) wr w1->Aside (fun i=>i=R) w1 J->ga w R r (uj w.1.size) (.panicked (dm er)) J):=fun w1 J o dj=>by
                    have e:r=N er:=(by rw[cn.out,h2];rfl);rw[e];exact⟨rfl,(M.out.aside.trans o (fun _ _ h=>h)).trans dj (fun _ _ h=>h)⟩
                  clear h2 cn cx;go_wp2_with fail
                  go_region_law (first
                    | (refine aO (.tmp 17) 148 (by rfl) (by rfl) (by rfl) func104 (by kernel_rfl) (by rfl) bi.out ?_;intro e w1 y;obtain⟨v,he,D,E,o⟩:=y.good;clear y
                       replace D:v=I U (a1:Nat):=D
                       subst D;refine⟨_,he,?_⟩;clear he;rw[<-b1.out] at E;have aj:=gQq (M.out.step o E);have a9:=gQq o;have cu:w1.cell? ⟨X,3,Y⟩=C (O q es.length d):=aa aj.out.bX 3;have d0:=ac aj.out.bX 3;have gb:∀K,(w1.alloc K).cell? ⟨X,3,Y⟩=C (O q es.length d):=fun K=>ae (gQz.alloc gQx K) cu;have gd:∀K,(w1.alloc K).frozen? ⟨X,3,Y⟩=false:=fun K=>(((Below.refl w1.1.size w1).alloc gQx K).frozen (p:=⟨X,3,Y⟩) (by show X<_;have:=aj.out.size;omega)).trans d0;clear o E)
                    | (refine bU (.tmp 19) 148 (by rfl) (by rfl) (by rfl) func104 (by kernel_rfl) (by rfl) (bv.out w1 aj.out.rd) (fun e J y=>⟨_,y.bad.1,rfl,bN.out w1 J a9.out y.bad.2⟩) (I U 0) ?_;intro a5)
                    | (refine bm a5 (I U 0) ?_)
                    |fail)
                  all_goals exact a5.out.elim
                |ok bk=>
                  obtain⟨a4,a7⟩:=bk;rw[h2] at bv;obtain⟨a0,cr⟩:∃a0,a0=aw.drop a7:=⟨_,rfl⟩;have cb:F (∀J,cz J A R a0->Calls Tryz.prog 104 #[.pointer (C ⟨R,0,Y⟩)] J (RdB J A R a0 (Fr.nb 1099511627776 a0) isI)):=fun J h=>fb a0 A R J h;have c5:F (r=ar (shE es Z (ar (Fr.nb 1099511627776 a0) fun c V=>shE [⟨a1,a4,c⟩] (a2+(a7+V)) (Fr.rdE (m-(es.length+1)) (a0.drop V)))) fun es j=>if (S.drop j).length=0 then .ok (pd a b c es) else N 5):=by
                    show _=_;rw[cn.out,h2,cr];rfl
                  have cy:F (Fr.rdE m S=shE es Z (ar (Fr.nb 1099511627776 a0) fun c V=>shE [⟨a1,a4,c⟩] (a2+(a7+V)) (Fr.rdE (m-(es.length+1)) (a0.drop V)))):=by
                    show _=_;rw[cx.out,h2,cr];rfl
                  have ci:=gQq cr;clear h2 cn cx cr;cases h3:Fr.nb 1099511627776 a0 with
                  |error er=>
                    rw[h3] at cb;have bN:F (∀w1 J,Aside (fun i=>i=R) wr w1->Aside (fun i=>i=R) w1 J->ga w R r (uj w.1.size) (.panicked (dm er)) J):=fun w1 J o dj=>by
                      have e:r=N er:=(by rw[c5.out,h3];rfl);rw[e];exact⟨rfl,(M.out.aside.trans o (fun _ _ h=>h)).trans dj (fun _ _ h=>h)⟩
                    clear h3 c5 cy;go_wp2_with fail
                    go_region_law (first
                      | (refine aO (.tmp 17) 148 (by rfl) (by rfl) (by rfl) func104 (by kernel_rfl) (by rfl) bi.out ?_;intro e w1 y;obtain⟨v,he,D,E,o⟩:=y.good;clear y
                         replace D:v=I U (a1:Nat):=D
                         subst D;refine⟨_,he,?_⟩;clear he;rw[<-b1.out] at E;have aj:=gQq (M.out.step o E);have a9:=gQq o;have cu:w1.cell? ⟨X,3,Y⟩=C (O q es.length d):=aa aj.out.bX 3;have d0:=ac aj.out.bX 3;have gb:∀K,(w1.alloc K).cell? ⟨X,3,Y⟩=C (O q es.length d):=fun K=>ae (gQz.alloc gQx K) cu;have gd:∀K,(w1.alloc K).frozen? ⟨X,3,Y⟩=false:=fun K=>(((Below.refl w1.1.size w1).alloc gQx K).frozen (p:=⟨X,3,Y⟩) (by show X<_;have:=aj.out.size;omega)).trans d0;clear o E)
                      | (refine aO (.tmp 19) 148 (by rfl) (by rfl) (by rfl) func104 (by kernel_rfl) (by rfl) (bv.out w1 aj.out.rd) ?_;intro e J y;obtain⟨v,he,D,E,o⟩:=y.good;clear y
                         replace D:v=I U (a4:Nat):=D
                         subst D;refine⟨_,he,?_⟩;clear he;rw[<-ci.out] at E;have a6:=gQq (aj.out.step o E);have bs:=gQq (a9.out.trans o (fun _ _ h=>h));have z3:J.cell? ⟨X,3,Y⟩=C (O q es.length d):=aa a6.out.bX 3;have gh:=ac a6.out.bX 3;have hn:∀K,(J.alloc K).cell? ⟨X,3,Y⟩=C (O q es.length d):=fun K=>ae (gQz.alloc gQx K) z3;have ho:∀K,(J.alloc K).frozen? ⟨X,3,Y⟩=false:=fun K=>(((Below.refl J.1.size J).alloc gQx K).frozen (p:=⟨X,3,Y⟩) (by show X<_;have:=a6.out.size;omega)).trans gh;clear o E)
                      | (refine bU (.tmp 21) 148 (by rfl) (by rfl) (by rfl) func104 (by kernel_rfl) (by rfl) (cb.out J a6.out.rd) (fun e ah y=>⟨_,y.bad.1,rfl,bN.out J ah bs.out y.bad.2⟩) (I U 0) ?_;intro a5)
                      | (refine bm a5 (I U 0) ?_)
                      |fail)
                    all_goals exact a5.out.elim
                  |ok ck=>
                    obtain⟨bq,be⟩:=ck;rw[h3] at cb;have e1:F (Fr.rdE m S=shE (es++[⟨a1,a4,bq⟩]) (Z+(a2+(a7+be))) (Fr.rdE (m-(es++[(⟨a1,a4,bq⟩:Ent)]).length) (S.drop (Z+(a2+(a7+be)))))):=by
                      show _=_;have e:Fr.rdE m S=shE es Z (shE [⟨a1,a4,bq⟩] (a2+(a7+be)) (Fr.rdE (m-(es.length+1)) (a0.drop be))):=by
                        rw[cy.out,h3];rfl
                      rw[e,vQ,AH,AO,ci.out,b1.out,d8.out,Ax,Ax,Ax]
                    have e5:F (a0.drop be=S.drop (Z+(a2+(a7+be)))):=by
                      show _=_;rw[ci.out,b1.out,d8.out,Ax,Ax,Ax]
                    clear h3 c5 cy;go_wp2_with fail
                    go_region_law (first
                      | (refine aO (.tmp 17) 148 (by rfl) (by rfl) (by rfl) func104 (by kernel_rfl) (by rfl) bi.out ?_;intro e w1 y;obtain⟨v,he,D,E,o⟩:=y.good;clear y
                         replace D:v=I U (a1:Nat):=D
                         subst D;refine⟨_,he,?_⟩;clear he;rw[<-b1.out] at E;have aj:=gQq (M.out.step o E);have cu:w1.cell? ⟨X,3,Y⟩=C (O q es.length d):=aa aj.out.bX 3;clear o E)
                      | (refine aO (.tmp 19) 148 (by rfl) (by rfl) (by rfl) func104 (by kernel_rfl) (by rfl) (bv.out w1 aj.out.rd) ?_;intro e J y;obtain⟨v,he,D,E,o⟩:=y.good;clear y
                         replace D:v=I U (a4:Nat):=D
                         subst D;refine⟨_,he,?_⟩;clear he;rw[<-ci.out] at E;have a6:=gQq (aj.out.step o E);have z3:J.cell? ⟨X,3,Y⟩=C (O q es.length d):=aa a6.out.bX 3;clear o E)
                      | (refine aO (.tmp 21) 148 (by rfl) (by rfl) (by rfl) func104 (by kernel_rfl) (by rfl) (cb.out J a6.out.rd) ?_;intro e ah y;obtain⟨v,he,D,E,o⟩:=y.good;clear y
                         replace D:v=I U (bq:Nat):=D
                         subst D;refine⟨_,he,?_⟩;clear he;have cc:=gQq (a6.out.step o E);have f9:ah.cell? ⟨X,3,Y⟩=C (O q es.length d):=aa cc.out.bX 3;have t4:∀K,(ah.alloc K).cell? ⟨X,3,Y⟩=C (O q es.length d):=fun K=>ae (gQz.alloc gQx K) f9;have g2:=cc.out.size;clear o E)
                      | (refine jk (B:=X+1) (es:=es) (v:=O q es.length d) (by exact cc.out.own.on gQy) ⟨a1,a4,bq⟩ (ad:=ah.1.size) (by exact an ah _) (by omega) (by simp;omega) (H:=ah.1.size+1) (by simp) (.tmp 16) (.tmp 24) (by rfl) (by rfl) (by rfl) (by rfl) ?_;intro fv fs w4 eL ev _;have ct:=cc.out.more eL ev;have ha:w4.cell? ⟨X,3,Y⟩=C (O q es.length d):=aa ct.1 3;have hc:=ac ct.1 3;have e3:=gQq ct.2;clear ct eL ev)
                      |fail)
                    all_goals
                      go_wp2;go_roundw;case rel=>
                        refine⟨es++[⟨a1,a4,bq⟩],Z+(a2+(a7+be)),C ⟨fv,0,Y⟩,fs,by simp;omega,by rw[AH,AO];go_num,?_,e1.out⟩;have:=e3.out;rw[e5.out] at this;simpa using this
                      case measure=>simp[intOf];omega
            · have gz:¬(es.length:Int)<(m:Int):=(by omega);have e0:es.length=m:=(by omega);have b3:F (r=if (S.drop Z).length=0 then .ok (pd a b c es) else N 5):=by
                show _=_;rw[d9.out,bT.out,e0,Nat.sub_self];simp[Fr.rdE,shE,ar]
              obtain⟨f8,c1,dr,-,-,-⟩:=M.out.rd.out;obtain⟨b5,eq⟩:∃b5,b5=(S.drop Z).length:=⟨_,rfl⟩;rw[<-eq] at dr b3;have g8:wr.cell? ⟨R,0,Y⟩=C (O f8 b5 c1):=aa dr 0;have cs:=M.out.bX;have u0:wr.cell? ⟨X,0,Y⟩=C (I U a):=aa cs 0;have u1:wr.cell? ⟨X,1,Y⟩=C (I U b):=aa cs 1;have u2:wr.cell? ⟨X,2,Y⟩=C (I U c):=aa cs 2;have bc:=M.out.bO;obtain⟨hf,hg,hh,hi⟩:=cQ4 bc;have hj:=ac bc 0;have hk:=ac bc 1;have hl:=ac bc 2;have hm:=ac bc 3;have e4:=gQq bc;clear eq dr cs bc cd bT e0;by_cases cp:b5=0
              · have e8:F (r=.ok (pd a b c es)):=b3.out.trans (AG cp);subst cp;clear b3;go_wp2_with fail;refine(i6 _ 5 _).mono ?_;rintro e w5 ⟨rfl,b8⟩;rw[b8];clear b8 w5;go_wp2;have fc:(wr.setCell ⟨w.1.size,0,Y⟩ (I U a)).1[w.1.size]?=C (wx #[I U a,I U 0,I U 0,O Y 0 0] 147 (0,0)):=ao e4.out 0 _;have fi:((wr.setCell ⟨w.1.size,0,Y⟩ (I U a)).setCell ⟨w.1.size,1,Y⟩ (I U b)).1[w.1.size]?=C (wx #[I U a,I U b,I U 0,O Y 0 0] 147 (0,0)):=ao fc 1 _;have fo:(((wr.setCell ⟨w.1.size,0,Y⟩ (I U a)).setCell ⟨w.1.size,1,Y⟩ (I U b)).setCell ⟨w.1.size,2,Y⟩ (I U c)).1[w.1.size]?=C (wx #[I U a,I U b,I U c,O Y 0 0] 147 (0,0)):=ao fi 2 _;have fq:((((wr.setCell ⟨w.1.size,0,Y⟩ (I U a)).setCell ⟨w.1.size,1,Y⟩ (I U b)).setCell ⟨w.1.size,2,Y⟩ (I U c)).setCell ⟨w.1.size,3,Y⟩ (O q es.length d)).1[w.1.size]?=C (wx #[I U a,I U b,I U c,O q es.length d] 147 (0,0)):=ao fo 3 _;have eg:Aside (fun i=>i=w.1.size) wr ((((wr.setCell ⟨w.1.size,0,Y⟩ (I U a)).setCell ⟨w.1.size,1,Y⟩ (I U b)).setCell ⟨w.1.size,2,Y⟩ (I U c)).setCell ⟨w.1.size,3,Y⟩ (O q es.length d)):=(((am wr w.1.size 0 _).trans (am _ w.1.size 1 _) (fun _ _ h=>h)).trans (am _ w.1.size 2 _) (fun _ _ h=>h)).trans (am _ w.1.size 3 _) (fun _ _ h=>h)
                refine bodyPost_ret (v:=.agg #[I U a,I U b,I U c,O q es.length d]) (results_cell_row rfl _ _ w.1.size _ _ _ _ rfl fq underlying147 rfl (by kernel_rfl)) rfl ?_;rw[e8.out];refine⟨_,rfl,⟨q,d,rfl,?_⟩,?_⟩
                · exact(M.out.own.aside eg (fun k f0 gq=>by have:=(M.out.own.lt k f0).1;omega)).low (by omega)
                · exact M.out.aside.trans eg (fun i gt h=>by omega)
              · have a3:F (r=N 5):=b3.out.trans (AF cp);have gl:((b5:Int)==0)=false:=bg (by omega);clear b3 cp;go_wp2_with fail;refine(gF _ 5 _).mono ?_;rintro e w5 ⟨rfl,b8⟩;rw[b8];clear b8 w5;go_wp2;rw[a3.out];exact⟨rfl,rfl,M.out.aside⟩
end Go.Proofs.YtngmnfdaedlodaaGreatDoor
