import Derived.Test.YtngmnfdaedlodaaGreatDoorB18
set_option maxRecDepth 100000
set_option maxHeartbeats 2000000
namespace Go.Proofs.YtngmnfdaedlodaaGreatDoor
open Go.Proofs.Tryz
open Option renaming none->I,some->Y
open Go.Value renaming slice->U,int->N,pointer->qq
open Go.RowKit renaming Hid->O
open Go.IntKind renaming i64->C
open Go.Obj renaming cells->F
open Except renaming error->AQ
open Go renaming World->AU
open Go.Proofs.Tryz renaming prog->AE
variable{A M R n:Nat}{W w:AU}{l:L8}{x:Value}{y:Int}
section
open Go.RowKit Go.Maps
attribute [local go_sem] al
theorem cR.names{l l':List Col}(h:cR w M n l)(J:l.map Col.name=l'.map Col.name):cR w M n l':=by
 obtain⟨o,D,E⟩:=h.out;refine⟨o,D,fun t=>?_⟩;rw[E t];have e:∀l:List Col,l.any (fun x=>decide (x.name=t))=(l.map Col.name).any (fun x=>decide (x=t)):=fun l=>by rw[List.any_map];rfl
 rw[e l,e l',J]
theorem tM:Sch.name ⟨#[]⟩=false:=by kernel_rfl
theorem xX(s:List Col)(b:L8):Sch.rdC s b=ar (iH b) fun Q j=>if s.any (fun x=>decide (x.name=Q)) then AQ 71 else ar (lU Q (b.drop j)) fun c S=>.ok (c,j+S):=by
 unfold Sch.rdC iH;cases hn:Sch.num b with
 |error e=>
  have J:Sch.text 16 70 b=AQ e:=by unfold Sch.text;rw[hn]
  rw[J];rfl
 |ok nk=>
  obtain⟨n,k⟩:=nk;dsimp only;by_cases K:n=0
  ·subst K;have J:Sch.text 16 70 b=.ok (⟨#[]⟩,k+0):=by
    unfold Sch.text;rw[hn];dsimp only;rw[AF (by omega),AF (by omega)];simp
   rw[AG rfl,J];dsimp only;rw[AG tM];rfl
  ·rw[AF K];cases Sch.text 16 70 b with
   |error e=>rfl
   |ok sj=>
    obtain⟨t,j⟩:=sj;dsimp only;by_cases E:Sch.name t=false
    ·rw[AG E,AG E];rfl
    ·rw[AF E,AF E,aI];by_cases o:(s.any (fun x=>decide (x.name=t)))=true
     ·rw[AG o,AG o]
     ·rw[AF o,AF o];unfold lU;cases Sch.rdT 4 (b.drop j) with
      |error e=>rfl
      |ok tj=>
       obtain⟨X,L⟩:=tj;rw[aI,Ax];dsimp only;cases Sch.bit (b.drop (j+L)) with
       |error e=>rfl
       |ok hj=>
        obtain⟨h,V⟩:=hj;rw[aI];dsimp only;by_cases D:h=0
        ·rw[AG D,AG D,aI,Nat.add_assoc]
        ·rw[AF D,AF D,Ax,Nat.add_assoc];cases Sch.rdV X (b.drop (j+(L+V))) with
         |error e=>rfl
         |ok vj=>
          obtain⟨v,Z⟩:=vj;rw[aI,aI];dsimp only;rw[Nat.add_assoc,Nat.add_assoc]
theorem sD{D:ByteArray}{c:Col}{j:Nat}(h:lU D l=.ok (c,j)):c.name=D:=by
 unfold lU at h;cases h1:Sch.rdT 4 l with
 |error e=>rw[h1] at h;cases h
 |ok tj=>
  obtain⟨t,o⟩:=tj;rw[h1,aI] at h;cases h2:Sch.bit (l.drop o) with
  |error e=>rw[h2] at h;cases h
  |ok hj=>
   obtain⟨J,E⟩:=hj;rw[h2,aI] at h;split at h
   ·injection h with h;injection h with h _;rw[<-h]
   ·cases h3:Sch.rdV t (l.drop (o+E)) with
    |error e=>rw[h3] at h;cases h
    |ok vj=>
     obtain⟨v,K⟩:=vj;rw[h3,aI] at h;injection h with h;injection h with h _;rw[<-h]
def zK(w:AU)(s:List Col)(v:Value)(w':AU):Prop:=∃us Fs,aS w' w.1.size v s.length us Fs s
def iK(l:L8):Except Nat (List Col×Nat):=ar (aR 16 3 l) fun n k=>if n=0 then AQ 4 else ar (Sch.rdCs n [] (l.drop k)) fun s j=>.ok (s,k+j)
structure jZ(w wr:AU)(A R M n:Nat)(l:L8)(r:Except Nat (List Col×Nat))(s:List Col)(v:Value):Prop where
 built:∃us Fs,aS wr (M+1) v s.length us Fs s
 names:cR wr M s.length s
 left:∃k,Rdr wr A R (l.drop k)∧r=shift k (Sch.rdCs (n-s.length) s (l.drop k))
 aside:Aside (fun i=>i=R) w wr
 low:R<w.1.size
 mid:w.1.size<=M
 len:s.length<=n
theorem lR{w1:AU}(h:Rdr w1 A R l)(o:Aside (fun i=>i=R) w w1)(D:R<w.1.size):jZ w (w1.alloc (.map #[] 0)) A R w1.1.size n l (Sch.rdCs n [] l) [] (U I 0 0):=by
 have hb:Below w1.1.size w1 (w1.alloc (.map #[] 0)):=gQy;refine⟨⟨_,_,jO _ _⟩,ju w1,⟨0,h.on hb,?_⟩,o.trans (af hb (fun _=>False)) (fun _ _ h=>h.elim),D,o.size,Nat.zero_le _⟩;rw[List.drop_zero,List.length_nil,Nat.sub_zero];cases Sch.rdCs n [] l with
 |error e=>rfl
 |ok p=>simp[shift]
theorem jZ.next{wr L D w4:AU}{r:Except Nat (List Col×Nat)}{s:List Col}{v:Value}(h:jZ w wr A R M n l r s v){us:Nat->AV}{V:Nat->Nat->Prop}(ah:aS wr (M+1) v s.length us V s){k j:Nat}{c:Col}{u:AV}(bj:s.length<n)(a3:r=shift k (Sch.rdCs (n-s.length) s (l.drop k)))(J:Sch.rdC s (l.drop k)=.ok (c,j))(X:Aside (fun i=>i=R∨i=M) wr L)(a1:cR L M (s.length+1) (s++[c]))(Q:Aside (fun i=>i=R) L D)(a7:dx D (fun i=>L.1.size<=i∧i<D.1.size) u c)(a9:Rdr D A R ((l.drop k).drop j)):
  (D.alloc (F u 104)).ownsRow (M+1) 104 9 v s.length (flat us s.length) ∧
  ∀g cap,w4.ownsRow (M+1) 104 9 (U (Y ⟨g,0,I⟩) (s.length+1) cap) (s.length+1) (flat us s.length++u.toList)->(D.alloc (F u 104)).grownBy w4 v.ownBlock->(v.ownBlock=Y g∨g=(D.alloc (F u 104)).1.size) ->
   jZ w w4 A R M n l r (s++[c]) (U (Y ⟨g,0,I⟩) (s.length+1) cap):=by
 have a4:=h.low;have a5:=h.mid;have bi:=h.names.lt;have bk:=X.size;have bl:=Q.size;have S:Below D.1.size D (D.alloc (F u 104)):=gQy;have bn:=S.size;have ab:aS L (M+1) v s.length us V s:=ah.aside X (fun g o aj=>by have:=(ah.lt g o).1;omega) (fun i K k E aj=>by have:=(ah.range i K k E).1;omega);obtain⟨be,bc,aw,a0⟩:=Q.split (by omega);have ai:aS be (M+1) v s.length us V s:=ab.aside bc (fun g o aj=>by have:=(ab.lt g o).1;omega) (fun i K k E aj=>by have:=(ab.range i K k E).1;omega);refine⟨((ai.on a0).on S).row,fun g cap a8 o a6=>?_⟩;have bb:=ai.step a0 a7 (fun k E=>⟨by rw[aw];exact E.1,E.2⟩) S (by rw[aw];omega) a8 o a6;have bp:=o.size;have ak:=fun k (E:v.ownBlock=Y k)=>(ai.lt k E);have Z:Aside (fun k=>v.ownBlock=Y k) D w4:=(af S _).trans (G:=fun k=>v.ownBlock=Y k) ⟨o.os,o.tape,o.output,o.size,fun k E a2=>o.block k E (fun J=>a2 J.symm)⟩ (fun _ _ h=>h);refine⟨⟨_,_,by rw[AH,AO];exact bb⟩,?_,⟨k+j,?_,?_⟩,?_,a4,a5,by rw[AH,AO];omega⟩
 ·rw[AH,AO];refine a1.keep ?_;rw[Z.block M (by omega) (fun J=>by have:=(ak M J).1;omega),Q.block M (by omega) (by omega)]
 ·rw[<-Ax];exact a9.aside Z (fun i K=>by have:=(ak i K).1;omega)
 ·rw[a3,show n-s.length=(n-(s++[c]).length)+1 by rw[AH,AO];omega,kC,J,s9,mG,Ax]
 ·refine((h.aside.trans X (fun i K J=>J.elim id (fun h=>by omega))).trans Q (fun _ _ h=>h)).trans Z (fun i K J=>?_);have:=(ak i J).1;omega
end
section
open Go.RowKit Go.Maps
attribute [local go_sem] al
theorem uP(l:L8)(A R:Nat)(w:AU)(h:Rdr w A R l):Calls AE 92 #[qq (Y ⟨R,0,I⟩)] w (RdA w A R l (iK l) (zK w)):=by
  have fo:=@run_makeMap AE;have ea:=h.lt;have a3:=gQq (lQ 16 3 (by omega) l A R w h);obtain⟨r,cb⟩:∃r,r=iK l:=⟨_,rfl⟩;have a4:O (r=ar (aR 16 3 l) fun n k=>if n=0 then AQ 4 else ar (Sch.rdCs n [] (l.drop k)) fun s j=>.ok (s,k+j)):=cb;rw[<-cb];obtain⟨ep,a2⟩:∃m,m=aR 16 3 l:=⟨_,rfl⟩;rw[<-a2] at a4 a3;have cn:=gQq a2;clear cb a2 h;cases ep with
  |error S=>
    have aj:O (r=AQ S):=a4.out;clear a4;go_enter func92,ntmps92;go_wp2_with fail;refine a3.out.mono ?_;intro e w1 E;obtain⟨Q,o⟩:=E.bad;subst Q;clear E;have ab:=gQq o;clear o a3;go_wp2;rw[aj.out];exact⟨rfl,rfl,ab.out⟩
  |ok nk=>
    obtain⟨n,k⟩:=nk;have fq:n<=16:=count_le cn.out.symm;have bp:O (r=if n=0 then AQ 4 else ar (Sch.rdCs n [] (l.drop k)) fun s j=>.ok (s,k+j)):=a4.out;clear a4 cn;go_enter func92,ntmps92;go_wp2_with fail;refine a3.out.mono ?_;intro e w1 E;obtain⟨v,Q,Z,hrd,o⟩:=E.good;clear E
    replace Z:v=N C (n:Nat):=Z
    subst Z;subst Q;have ck:=gQq o;have b1:=gQq hrd;clear o hrd a3;by_cases b9:n=0
    · have aj:O (r=AQ 4):=bp.out.trans (AG b9);have cw:decide ((0:Int)<(n:Int))=false:=AP (by omega);clear bp;subst b9;go_wp2_with fail;refine(cZ _ 4 _).mono ?_;rintro e bc ⟨rfl,a8⟩;rw[a8];clear a8 bc;go_wp2;rw[aj.out];exact⟨rfl,rfl,ck.out⟩
    have aj:O (r=ar (Sch.rdCs n [] (l.drop k)) fun s j=>.ok (s,k+j)):=bp.out.trans (AF b9);have cw:decide (0<n)=true:=AR (by omega);have fs:(n:Int)<=16:=(by omega);clear bp;go_wp2_with fail;try rw[cw]
    refine(cY _ 4 _).mono ?_;rintro e bc ⟨rfl,a8⟩;rw[a8];clear a8 bc;obtain⟨L,b3⟩:∃L,L=l.drop k:=⟨_,rfl⟩;rw[<-b3] at aj b1;have d0:=gQq b3;obtain⟨bv,dj⟩:∃bv,bv=Sch.rdCs n [] L:=⟨_,rfl⟩;have cu:=gQq (lR (n:=n) b1.out ck.out ea);rw[<-dj] at aj cu;clear dj b3 b1;go_wp2_with fail;go_loopw [4,18] (fun eL cd wr=>∃(s:List Col) (q:OA) (c:Nat),cd=N C s.length∧eL=U q s.length c∧s.length<=n∧O (jZ w wr A R w1.1.size n L bv s (U q s.length c))) (fun _ cd _=>n-(intOf cd).toNat);case atStart=>exact⟨[],I,0,rfl,rfl,Nat.zero_le _,cu.out⟩
    case round=>
      obtain⟨s,q,c,rfl,rfl,f0,K⟩:=hrel;by_cases ec:s.length<n
      · have e9:(s.length:Int)<(n:Int):=(by omega);obtain⟨J,hrd,a1⟩:=K.out.left;obtain⟨us,ci,a7⟩:=K.out.built;have ds:=gQq a7;have d1:=gQq a1;have bj:=gQq (ya (L.drop J) A R wr hrd);have bq:=gQq (xX s (L.drop J))
        -- where the column can't be read
        have bX:O (∀S,Sch.rdC s (L.drop J)=AQ S->r=AQ S):=fun S Q=>by
          have d8:bv=AQ S:=by
            rw[a1,show n-s.length=(n-s.length-1)+1 by omega,kC,Q];rfl
          rw[aj.out,d8];rfl
        obtain⟨er,b8⟩:∃m,m=iH (L.drop J):=⟨_,rfl⟩;rw[<-b8] at bj bq;have cp:=gQq b8;clear hrd a1 a7 b8;go_wp2_with fail;refine bj.out.mono ?_;intro e bc E;cases er with
        |error S=>
          have a6:O (r=AQ S):=bX.out S bq.out;obtain⟨Q,o⟩:=E.bad;subst Q;clear E;have ab:=gQq (K.out.aside.trans o (fun _ _ h=>h));clear o bj;go_wp2;rw[a6.out];exact⟨rfl,rfl,ab.out⟩
        |ok nj=>
          obtain⟨V,j⟩:=nj;obtain⟨v,Q,Z,hrd,o⟩:=E.good;clear E
          replace Z:v=.string V:=Z
          subst Z;subst Q;have eg:V.size<=140737488351232:=by
            have X:=cp.out.symm;unfold iH at X;split at X
            · cases X
            · next t k2 ht=>
              split at X
              · cases X
              · injection X with X;injection X with X _;have:=(Sch.text_ok ht).1;rw[<-X];omega
          have a5:O (Sch.rdC s (L.drop J)=if s.any (fun x=>decide (x.name=V)) then AQ 71 else ar (lU V ((L.drop J).drop j)) fun c bb=>.ok (c,j+bb)):=bq.out;have bO:=gQq o;have b2:=gQq hrd;have d9:=K.out.names.lt;have fi:=K.out.mid;have cq:O (cR bc w1.1.size s.length s):=K.out.names.keep (o.block _ d9 (by omega));have bl:=gQq (qp eg);obtain⟨D,ak,b5⟩:=cq.out.out;have bn:=gQq ak;have bk:=gQq (b5 V);have ct:=gQq (fun d t=>qA ak b5 ⟨V,⟨0,[]⟩,false,V0⟩ d t);obtain⟨ev,df⟩:∃b,b=s.any (fun x=>decide (x.name=V)):=⟨_,rfl⟩;rw[<-df] at bk a5;have fv:=o.size;clear o hrd ak b5 bj bq cp df;cases ev with
          |true=>
            have a6:O (r=AQ 71):=bX.out 71 (a5.out.trans (AG (by first | rfl | trivial)));have ab:=gQq (K.out.aside.trans bO.out (fun _ _ h=>h));clear a5;go_wp2_with (first | (at_lookup;refine wpList_lookup_own_ok_int _ rfl _ _ 188 rfl 9 3 C rG underlying188 underlying3 (pV _) w1.1.size s.length D rfl bn.out _ _ rfl bl.out ?_;intro d7 b4 cc;rw[bk.out];clear b4 cc));refine(cZ _ 71 _).mono ?_;rintro e ah ⟨rfl,a9⟩;rw[a9];clear a9 ah;go_wp2;rw[a6.out];exact⟨rfl,rfl,ab.out⟩
          |false=>
            have bs:O (Sch.rdC s (L.drop J)=ar (lU V ((L.drop J).drop j)) fun c bb=>.ok (c,j+bb)):=a5.out.trans (AF (by first | decide | simp));clear a5;go_wp2_with (first | (at_lookup;refine wpList_lookup_own_ok_int _ rfl _ _ 188 rfl 9 3 C rG underlying188 underlying3 (pV _) w1.1.size s.length D rfl bn.out _ _ rfl bl.out ?_;intro d7 b4 cc;rw[bk.out];clear b4 cc));refine(cY _ 71 _).mono ?_;rintro e ah ⟨rfl,a9⟩;rw[a9];clear a9 ah
            go_wp2_with (first
              | (at_mapUpdate;refine wpList_mapUpdate_own _ rfl _ _ _ 188 rfl 9 3 rG underlying188 _ w1.1.size s.length D rfl bn.out (by unfold maxLen;omega) _ _ _ rfl rfl bl.out _ [] (plainElem_int underlying3 (WalkArith.wf_i64 (by omega))) ?_;intro ah c8 c6
                 have cr:=gQq c8;have ai:=gQq c6;clear c8 c6))
            have bT:O (Aside (fun i=>i=R∨i=w1.1.size) wr ah):=by
              refine(bO.out.mono (fun _ _ h=>.inl h)).trans (G:=fun i=>i=w1.1.size) ⟨ai.out.os,ai.out.tape,ai.out.output,ai.out.size,fun i b6 eb=>ai.out.block i b6 (fun a0=>eb (by injection a0))⟩ (fun _ _ h=>.inr h)
            have d5:O (Rdr ah A R ((L.drop J).drop j)):=b2.out.keep (fun i b6=>ai.out.block i (by have:=b2.out.lt;omega) (fun a0=>by injection a0 with a0;omega)) ai.out.size;have dr:O (Aside (fun i=>i=R) w ah):=K.out.aside.trans bT.out (fun i b6 a0=>a0.elim id (fun h=>by omega));have bi:=gQq (wT V ((L.drop J).drop j) A R ah d5.out);obtain⟨eq,b7⟩:∃m,m=lU V ((L.drop J).drop j):=⟨_,rfl⟩;rw[<-b7] at bi bs;have co:=gQq b7;clear b7 b2 bO bn bk cq bl ai;go_wp2_with fail;refine bi.out.mono ?_;intro e w4 E;cases eq with
            |error S=>
              have a6:O (r=AQ S):=bX.out S bs.out;obtain⟨Q,o⟩:=E.bad;subst Q;clear E;have ab:=gQq (dr.out.trans o (fun _ _ h=>h));clear o bi;go_wp2;rw[a6.out];exact⟨rfl,rfl,ab.out⟩
            |ok cj=>
              obtain⟨aw,bb⟩:=cj;have d3:O (Sch.rdC s (L.drop J)=.ok (aw,j+bb)):=bs.out;obtain⟨v,Q,Z,hrd,o⟩:=E.good;obtain⟨u,en,ak⟩:=Z.open;clear E Z;have cy:aw.name=V:=sD co.out.symm;have d2:O (cR ah w1.1.size (s.length+1) (s++[aw])):=by
                refine cR.names (l:=s++[⟨V,⟨0,[]⟩,false,V0⟩]) ⟨_,cr.out,ct.out _⟩ ?_;simp[cy]
              have b0:=gQq (fun w5=>K.out.next (w4:=w5) ds.out ec d1.out d3.out bT.out d2.out o ak (by rw[<-Ax];exact hrd));have cs:=gQq ak;obtain⟨e7,e8,k',eC,ez,ew,e3,e2,e0,e6,e5,e4,e1,em,-⟩:=ak.out;subst em;subst en;subst Q;unfold aB at cs b0 ⊢;have fy:=o.size;have fx:=bT.out.size;have el:w1.1.size+1<=w4.1.size+1:=(by omega);clear o hrd ak bi bs co cr ct cy
              go_wp2_with (first|(at_builtin;refine sU (B:=w1.1.size+1) (us:=us) (v:=U q s.length c) (n:=s.length) (b0.out w4).1 (u:=#[.string aw.name,N C k',U eC ez ew,.bool aw.has,N C e3,N C e2,.float .f64 e0,.string e6,U e5 e4 e1]) rfl cs.out.one9 (ad:=w4.1.size) (an w4 _) (by omega) (by simpa using el) (H:=w4.1.size+1) (by simp) rfl rfl rfl rfl ?_;intro cx cv w5 c9 c5 c7;have dv:=gQq ((b0.out w5).2 cx cv c9 c5 (by simpa using c7));clear c9 c5 c7))
              go_roundw;case rel=>
                refine⟨s++[aw],Y ⟨cx,0,I⟩,cv,by simp,by simp,by simp;omega,?_⟩;have:=dv.out;rw[AH,AO];exact this
              case measure=>simp[intOf];omega
      · have fc:¬(s.length:Int)<(n:Int):=(by omega);have a2:n-s.length=0:=(by omega);obtain⟨J,hrd,a1⟩:=K.out.left;obtain⟨us,ci,a7⟩:=K.out.built;have d6:O (r=.ok (s,k+J)):=by
          show _=_;rw[aj.out,a1,a2];rfl
        have du:O (zK w s (U q s.length c) wr):=⟨us,ci,a7.low (by have:=K.out.mid;omega)⟩;have d4:O (Rdr wr A R (l.drop (k+J))):=by
          show Rdr _ _ _ _;rw[<-Ax,<-d0.out];exact hrd
        have ab:=gQq K.out.aside;clear hrd a1 a7 K a2;go_wp2;go_ret;rw[d6.out];exact⟨_,rfl,du.out,d4.out,ab.out⟩
end
section
open Go.RowKit
theorem uQ{s:List Col}{k:Nat}(h:iK l=.ok (s,k)):k<=l.length∧s.length<=16:=by
 unfold iK at h;cases h1:aR 16 3 l with
 |error e=>rw[h1] at h;cases h
 |ok nk=>
  obtain⟨n,o⟩:=nk;rw[h1,aI] at h;split at h
  ·cases h
  ·cases h2:Sch.rdCs n [] (l.drop o) with
   |error e=>rw[h2] at h;cases h
   |ok sj=>
    obtain⟨s',j⟩:=sj;rw[h2,aI] at h;injection h with h;injection h with hss h;obtain⟨Z,K,L,V,⟨X,E⟩,_⟩:=Sch.rdCs_ok n [] (l.drop o) s' j h2;have D:n<=16:=count_le h1;have Q:s.length<=16:=(by rw[<-hss,K,List.nil_append,L];exact D);have S:o<=l.length:=by
     unfold aR at h1;split at h1
     ·cases h1
     ·next n' k' hn=>
      split at h1
      ·cases h1
      ·injection h1 with h1;injection h1 with _ h1;have:=(eY hn).1;omega
    have J:=congrArg List.length E;rw[AL,AH] at J;exact⟨by omega,Q⟩
theorem vS(b:L8):Sch.read b=if 1024<b.length then AQ 2 else ar (iK b) fun s k=>if k=b.length then .ok s else AQ 5:=by
 unfold Sch.read;split
 ·rfl
 ·unfold iK aR;cases Sch.num b with
  |error e=>rfl
  |ok nk=>
   obtain⟨n,k⟩:=nk;dsimp only;by_cases D:n=0
   ·subst D;rw[AG rfl,AF (by omega),aI,AG rfl];rfl
   ·rw[AF D];by_cases o:16<n
    ·rw[AG o,AG o];rfl
    ·rw[AF o,AF o,aI,AF D];cases Sch.rdCs n [] (b.drop k) with
     |error e=>rfl
     |ok lj=>rfl
theorem jn(k:Int)(w:AU):(Instr.typeAssert (.iface 25 (N C k)) 20 25 false).run AE w=.ok (N C k) w:=by kernel_rfl
theorem iU(p q:Addr)(x:Value)(y:Int)(k:Int)(w:AU)(K:w.cell? p=Y x)(V:w.frozen? p=false)(L:w.cell? q=Y (N C y))(X:w.frozen? q=false)(Q:p≠q):
  CallsD AE 91 #[qq (Y p),qq (Y q)] (.panicking [{ v:=.iface 25 (N C k),recovered:=false }]) w fun e J w'=>
   e=.returned (.tuple #[])∧J=.panicking [{ v:=.iface 25 (N C k),recovered:=true }]∧w'=((w.setCell p (U I 0 0)).setCell q (N C k)).drew:=by
 have S:=jn k;refine callsD_of_wpS func91 rfl fun D o E=>?_;apply wpS_seq;apply wpS_region;simp[wpOpsS,go_sem,recoverD,E,ntmps91,Exit.thenS];refine wpS_of_wp ?_;go_wp2_with fail;go_region_law (fail)
 all_goals
  show bodyPostS AE Tryz.f91 D o _ Exit.normal _ _ _;simp[bodyPostS,results,Tryz.results91]
theorem pM(p q:Addr)(w:AU):
  CallsD AE 91 #[qq (Y p),qq (Y q)] .returning w fun e E w'=>e=.returned (.tuple #[])∧E=.returning∧w'=w:=by
 refine callsD_of_wpS func91 rfl fun o J D=>?_;apply wpS_seq;apply wpS_region;simp[wpOpsS,go_sem,recoverD,D,ntmps91,Exit.thenS];refine wpS_of_wp ?_;go_wp2_with fail;cases o
 simp_all [bodyPostS,results,Tryz.results91]
theorem bz{P:Program}{fn:Func}{p q:Tmp}{E J:TypeId}(h:fn.results=#[.cell p E,.cell q J])(tmps:AV)(w:AU)(g D:Nat)(t:TypeId)(o:AV)(fr:Nat×Nat)(d:TypeDesc)(x:Int)(X:tmps.getD p undef=qq (Y ⟨g,0,I⟩))(Q:w.1[g]?=Y (F o t fr))(ai:P.underlying E=Y d)(hd:(match d with | .struct _ | .array _ _=>true | _=>false)=true)(V:(P.info? E).map (·.size)=Y o.size)(ab:tmps.getD q undef=qq (Y ⟨D,0,I⟩))(S:w.cell? ⟨D,0,I⟩=Y (N C x))(aj:P.underlying J=Y (.int C)):
  (results fn tmps).run P w=.ok (.tuple #[.agg o,N C x]) w:=by
 have Z:tmps[p]?.getD undef=qq (Y ⟨g,0,I⟩):=by simpa using X
 have ah:tmps[q]?.getD undef=qq (Y ⟨D,0,I⟩):=by simpa using ab
 have K:=run_loadVar_row w g t E o fr d Q ai hd V;have L:(loadVar J ⟨D,0,I⟩).run P w=.ok (N C x) w:=by
  simp[go_sem,isAgg,run_underlying aj,S]
 simp[results,h,Z,ah,asAddr,K,L]
structure dO(w W:AU)(x:Value)(y:Int):Prop where
 b0:W.1[w.1.size]?=Y (F #[x] 35 (0,0))
 b1:W.1[w.1.size+1]?=Y (F #[N C y] 25 (0,0))
 size:w.1.size+3<=W.1.size
 below:Below w.1.size w W
theorem iJ{p:OA}{c:Nat}(D:At w p l)(J:l.length<=c)(E:l.length<=1024):dO w (((w.alloc (F #[U I 0 0] 35)).alloc (F #[N C 0] 25)).alloc (F #[U p l.length c] 170)) (U I 0 0) 0∧Rdr (((w.alloc (F #[U I 0 0] 35)).alloc (F #[N C 0] 25)).alloc (F #[U p l.length c] 170)) w.1.size (w.1.size+1+1) l:=by
 have hb:Below w.1.size w (((w.alloc (F #[U I 0 0] 35)).alloc (F #[N C 0] 25)).alloc (F #[U p l.length c] 170)):=(gQy.alloc (by simp) _).alloc (by simp;omega) _;refine⟨⟨?_,?_,by simp,hb⟩,⟨⟨p,c,?_,D.on hb,J,fun K a o=>?_⟩,E,by omega⟩⟩
 ·rw[ay _ _ (by simp;omega),ay _ _ (by simp)];exact an w _
 ·rw[ay _ _ (by simp)];have:=an (w.alloc (F #[U I 0 0] 35)) (F #[N C 0] 25);simpa using this
 ·have:=an ((w.alloc (F #[U I 0 0] 35)).alloc (F #[N C 0] 25)) (F #[U p l.length c] 170);simpa using this
 ·obtain⟨b,Q,L,hb,_⟩:=aP D (List.length_pos_iff.2 K);rw[L] at o;injection o with o;subst o;exact hb
theorem dO.step{D:AU}(h:dO w W x y)(o:Aside (fun i=>i=w.1.size+1+1) W D):dO w D x y:=by
 have E:=h.size;exact⟨by rw[o.block _ (by omega) (by omega)];exact h.b0,by rw[o.block _ (by omega) (by omega)];exact h.b1,AT E o.size,h.below.trans (o.below (by omega) (fun k J=>by omega))⟩
theorem dO.setS(h:dO w W x y)(D:Value):dO w (W.setCell ⟨w.1.size,0,I⟩ D) D y:=by
 have E:=h.size;have o:Aside (fun i=>i=w.1.size) W (W.setCell ⟨w.1.size,0,I⟩ D):=am _ _ _ _;exact⟨by rw[ao h.b0 0];rfl,by rw[o.block _ (by omega) (by omega)];exact h.b1,AT E o.size,h.below.trans (o.below (by omega) (fun k J=>by omega))⟩
theorem dO.setE(h:dO w W x y)(D:Int):dO w (W.setCell ⟨w.1.size+1,0,I⟩ (N C D)) x D:=by
 have E:=h.size;have o:Aside (fun i=>i=w.1.size+1) W (W.setCell ⟨w.1.size+1,0,I⟩ (N C D)):=am _ _ _ _;exact⟨by rw[o.block _ (by omega) (by omega)];exact h.b0,by rw[ao h.b1 0];rfl,AT E o.size,h.below.trans (o.below (by omega) (fun k J=>by omega))⟩
theorem dO.drew(h:dO w W x y):dO w W.drew x y:=⟨h.b0,h.b1,h.size,h.below.drew⟩
theorem lN(p:OA)(l:L8)(c:Nat)(cu:l.length<=140737488351232)(bs:l.length<=c)(w:AU)(X:At w p l):
  Calls AE 63 #[U p l.length c] w (Ac w (Sch.read l)):=by
 have cv:∀(fn:Fn) (first cap:AV) (w:AU),(Instr.makeFunc fn first cap).run AE w=.ok (.func fn first cap) w:=fun _ _ _ _=>rfl;obtain⟨r,bc⟩:∃r,r=Sch.read l:=⟨_,rfl⟩;have ai:=gQq (bc.trans (vS l));rw[<-bc];clear bc;have cr:=gQq X;by_cases a2:1024<l.length
 ·have b2:(1024:Int)<(l.length:Int):=by omega
  have E:O (r=AQ 2):=ai.out.trans (AG a2);clear ai X a2
  go_enter_defers func63,ntmps63
  have bT:O (∀o,(w.alloc (F #[U I 0 0] 35)).1[w.1.size]?=Y (F #[U I 0 0] 35 (0,0))∧((w.alloc (F #[U I 0 0] 35)).alloc o).1[w.1.size]?=Y (F #[U I 0 0] 35 (0,0))∧Below w.1.size w ((w.alloc (F #[U I 0 0] 35)).alloc o)):=fun o=>⟨an w _,by rw[ay _ _ (by simp)];exact an w _,gQy.alloc (by simp) _⟩;go_wp2;obtain⟨-,cj,ck⟩:=bT.out (F #[N C 2] 25);refine⟨_,bz rfl _ _ w.1.size (w.1.size+1) _ #[U I 0 0] _ _ 2 rfl cj underlying35 rfl (by kernel_rfl) rfl (by simp) underlying25,?_⟩;rw[E.out];exact⟨rfl,ck⟩
 have b2:¬(1024:Int)<(l.length:Int):=by omega
 have aj:O (r=ar (iK l) fun s k=>if k=l.length then .ok s else AQ 5):=ai.out.trans (AF a2);obtain⟨W,a1⟩:∃W,W=((w.alloc (F #[U I 0 0] 35)).alloc (F #[N C 0] 25)).alloc (F #[U p l.length c] 170):=⟨_,rfl⟩;have a5:O (dO w W (U I 0 0) 0):=by rw[a1];exact(iJ X bs (by omega)).1
 have bX:O (Rdr W w.1.size (w.1.size+1+1) l):=by rw[a1];exact(iJ X bs (by omega)).2
 have a7:=gQq a1;have ah:=gQq (uP l w.1.size (w.1.size+1+1) W bX.out)
 -- a panic that goes through the door
 have bl:O (∀(er:Nat) (aw:AU) (x:Value) (y:Int),r=AQ er->dO w aw x y->∀(tmps:AV) (a8:List Deferred),tmps.getD 2 undef=qq (Y ⟨w.1.size,0,I⟩)->tmps.getD 3 undef=qq (Y ⟨w.1.size+1,0,I⟩)->a8=[{ target:=.fn (.func 91) #[qq (Y ⟨w.1.size,0,I⟩),qq (Y ⟨w.1.size+1,0,I⟩)],args:=#[] }]->bodyPostD AE Tryz.f63 (Ac w r) (Exit.panic (dm er)) { tmps:=tmps,defers:=a8 } aw):=by
  intro er aw x y Q S tmps a8 b3 b4 cc;subst cc;refine leaves_cons (f:=91) (args:=#[qq (Y ⟨w.1.size,0,I⟩),qq (Y ⟨w.1.size+1,0,I⟩)]) (by simp) (by simp[go_sem]) ?_;refine(iU ⟨w.1.size,0,I⟩ ⟨w.1.size+1,0,I⟩ x y er aw (aa S.b0 0) (ac S.b0 0) (aa S.b1 0) (ac S.b1 0) (by intro b9;injection b9;omega)).mono ?_;rintro e cp cq ⟨rfl,rfl,rfl⟩;have hI3:=((S.setS (U I 0 0)).setE er).drew;refine⟨_,bz rfl tmps _ w.1.size (w.1.size+1) _ #[U I 0 0] _ _ (er:Int) b3 hI3.b0 underlying35 rfl (by kernel_rfl) b4 (aa hI3.b1 0) underlying25,?_⟩;rw[Q];exact⟨rfl,hI3.below⟩
 obtain⟨m,bb⟩:∃m,m=iK l:=⟨_,rfl⟩;rw[<-bb] at aj ah;have bn:=gQq bb;clear ai a1 bb X a2;cases m with
 |error er=>
  have E:O (r=AQ er):=aj.out
  go_enter_defers func63,ntmps63
  go_wp2_with fail;rw[<-a7.out];refine ah.out.mono ?_;intro e w1 Z;obtain⟨Q,V⟩:=Z.bad;subst Q;have D:=gQq (a5.out.step V);clear Z V;go_wp2;exact bl.out er w1 _ _ E.out D.out _ _ rfl rfl rfl
 |ok sk=>
  obtain⟨s,k⟩:=sk;obtain⟨bq,cw⟩:=uQ bn.out.symm;have E:O (r=if k=l.length then .ok s else AQ 5):=aj.out
  go_enter_defers func63,ntmps63
  go_wp2_with fail;rw[<-a7.out];refine ah.out.mono ?_;intro e w1 Z;obtain⟨v,Q,bv,be,V⟩:=Z.good;subst Q;have D:=gQq (a5.out.step V);have bk:=gQq bv;have cs:=gQq be;obtain⟨cn,c1,bp,b8,cb,-⟩:=be.out;have cx:=a5.out.size;have c6:w1.cell? ⟨w.1.size,0,I⟩=Y (U I 0 0):=aa D.out.b0 0;have c7:=ac D.out.b0 0;have cy:w1.cell? ⟨w.1.size+1,0,I⟩=Y (N C 0):=aa D.out.b1 0;have c5:=ac D.out.b1 0;have co:w1.cell? ⟨w.1.size+1+1,0,I⟩=Y (U cn (l.drop k).length c1):=aa bp 0;clear Z bv be V bp b8 cb ah a7 bn aj;obtain⟨us,bN,a9⟩:=bk.out;obtain⟨K,J,rfl,-,-⟩:=a9.cols (by omega);have a4:=gQq a9;obtain⟨L,a0⟩:∃L,L=(l.drop k).length:=⟨_,rfl⟩;rw[<-a0] at co;rw[AL] at a0;clear a9 bk;by_cases a3:k=l.length
  ·have a6:O (r=.ok s):=E.out.trans (AG a3);have b7:L=0:=(by omega);subst b7;clear E a0 a3;go_wp2_with fail;refine(cY _ 5 _).mono ?_;rintro e bj ⟨rfl,ab⟩;rw[ab];clear ab bj;go_wp2;refine leaves_cons (f:=91) (args:=#[qq (Y ⟨w.1.size,0,I⟩),qq (Y ⟨w.1.size+1,0,I⟩)]) (by simp) (by simp[go_sem]) ?_;refine(pM ⟨w.1.size,0,I⟩ ⟨w.1.size+1,0,I⟩ _).mono ?_;rintro e cp cq ⟨rfl,rfl,rfl⟩;have hI3:=((D.out.setS (U K s.length J)).setS (U K s.length J)).setE 0
   have b5:Aside (fun i=>i=w.1.size∨i=w.1.size+1) w1 (((w1.setCell ⟨w.1.size,0,I⟩ (U K s.length J)).setCell ⟨w.1.size,0,I⟩ (U K s.length J)).setCell ⟨w.1.size+1,0,I⟩ (N C 0)) :=
    (((am w1 w.1.size 0 (U K s.length J)).mono (fun _ _ h=>.inl h)).trans (am _ w.1.size 0 (U K s.length J)) (fun _ _ h=>.inl h)).trans (am _ (w.1.size+1) 0 (N C 0)) (fun _ _ h=>.inr h)
   have b6:=(a4.out.aside b5 (fun g cd Q=>by have:=(a4.out.lt g cd).1;omega) (fun j ci k bq Q=>by have:=(a4.out.range j ci k bq).1;omega)).low (B':=w.1.size) (by omega);refine⟨_,bz rfl _ _ w.1.size (w.1.size+1) _ #[U K s.length J] _ _ 0 rfl hI3.b0 underlying35 rfl (by kernel_rfl) rfl (aa hI3.b1 0) underlying25,?_⟩;rw[a6.out];exact⟨_,rfl,⟨_,us,bN,rfl,b6,by omega⟩,hI3.below⟩
  ·have a6:O (r=AQ 5):=E.out.trans (AF a3);have ct:((L:Int)==0)=false:=bg (by omega);have bO:=gQq (D.out.setS (U K s.length J));clear E a3 a0;go_wp2_with fail;refine(cZ _ 5 _).mono ?_;rintro e bj ⟨rfl,ab⟩;rw[ab];clear ab bj;go_wp2;exact bl.out 5 _ _ _ a6.out bO.out _ _ rfl rfl rfl
end
end Go.Proofs.YtngmnfdaedlodaaGreatDoor
