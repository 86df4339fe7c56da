import Derived.Test.YtngmnfdaedlodaaGreatDoorB18
set_option maxRecDepth 100000
set_option maxHeartbeats 2000000
namespace Go.Proofs.YtngmnfdaedlodaaGreatDoor
open Go.Proofs.Tryz
open Option renaming none->I,some->Y
open Go.Value renaming slice->U,int->N,pointer->mE
open Go.RowKit renaming Hid->O
open Go.IntKind renaming i64->C
open Go.Obj renaming cells->F
open Except renaming error->qx
open Go renaming World->wv
open Go.Proofs.Tryz renaming prog->AW
variable{A M R n:Nat}{W w:wv}{l:L8}{x:Value}{y:Int}
section
open Go.RowKit Go.Maps
attribute [local go_sem] ai
theorem cQ.names{l l':List Col}(h:cQ w M n l)(J:l.map Col.name=l'.map Col.name):cQ w M n l':=by
 obtain⟨o,D,E⟩:=h.out;refine⟨o,D,fun t=>?_⟩;rw[E t];have e:∀l:List Col,l.any (fun x=>decide (x.name=t))=(l.map Col.name).any (fun x=>decide (x=t)):=fun l=>by rw[List.any_map];rfl
 rw[e l,e l',J]
theorem tF:Sch.name ⟨#[]⟩=false:=by kernel_rfl
theorem xL(s:List Col)(b:L8):Sch.rdC s b=ap (iD b) fun Q j=>if s.any (fun x=>decide (x.name=Q)) then qx 71 else ap (lM Q (b.drop j)) fun c S=>.ok (c,j+S):=by
 unfold Sch.rdC iD;cases hn:Sch.num b with
 |error e=>
  have J:Sch.text 16 70 b=qx e:=by unfold Sch.text;rw[hn]
  rw[J];rfl
 |ok nk=>
  obtain⟨n,k⟩:=nk;dsimp only;by_cases K:n=0
  ·subst K;have J:Sch.text 16 70 b=.ok (⟨#[]⟩,k+0):=by
    unfold Sch.text;rw[hn];dsimp only;rw[AJ (by omega),AJ (by omega)];simp
   rw[AK rfl,J];dsimp only;rw[AK tF];rfl
  ·rw[AJ K];cases Sch.text 16 70 b with
   |error e=>rfl
   |ok sj=>
    obtain⟨t,j⟩:=sj;dsimp only;by_cases E:Sch.name t=false
    ·rw[AK E,AK E];rfl
    ·rw[AJ E,AJ E,aH];by_cases o:(s.any (fun x=>decide (x.name=t)))=true
     ·rw[AK o,AK o]
     ·rw[AJ o,AJ o];unfold lM;cases Sch.rdT 4 (b.drop j) with
      |error e=>rfl
      |ok tj=>
       obtain⟨X,L⟩:=tj;rw[aH,AI];dsimp only;cases Sch.bit (b.drop (j+L)) with
       |error e=>rfl
       |ok hj=>
        obtain⟨h,V⟩:=hj;rw[aH];dsimp only;by_cases D:h=0
        ·rw[AK D,AK D,aH,Nat.add_assoc]
        ·rw[AJ D,AJ D,AI,Nat.add_assoc];cases Sch.rdV X (b.drop (j+(L+V))) with
         |error e=>rfl
         |ok vj=>
          obtain⟨v,Z⟩:=vj;rw[aH,aH];dsimp only;rw[Nat.add_assoc,Nat.add_assoc]
theorem su{D:ByteArray}{c:Col}{j:Nat}(h:lM D l=.ok (c,j)):c.name=D:=by
 unfold lM at h;cases h1:Sch.rdT 4 l with
 |error e=>rw[h1] at h;cases h
 |ok tj=>
  obtain⟨t,o⟩:=tj;rw[h1,aH] at h;cases h2:Sch.bit (l.drop o) with
  |error e=>rw[h2] at h;cases h
  |ok hj=>
   obtain⟨J,E⟩:=hj;rw[h2,aH] at h;split at h
   ·injection h with h;injection h with h _;rw[<-h]
   ·cases h3:Sch.rdV t (l.drop (o+E)) with
    |error e=>rw[h3] at h;cases h
    |ok vj=>
     obtain⟨v,K⟩:=vj;rw[h3,aH] at h;injection h with h;injection h with h _;rw[<-h]
def zu(w:wv)(s:List Col)(v:Value)(w':wv):Prop:=∃us Fs,aR w' w.1.size v s.length us Fs s
def iG(l:L8):Except Nat (List Col×Nat):=ap (aQ 16 3 l) fun n k=>if n=0 then qx 4 else ap (Sch.rdCs n [] (l.drop k)) fun s j=>.ok (s,k+j)
structure jW(w wr:wv)(A R M n:Nat)(l:L8)(r:Except Nat (List Col×Nat))(s:List Col)(v:Value):Prop where
 built:∃us Fs,aR wr (M+1) v s.length us Fs s
 names:cQ wr M s.length s
 left:∃k,Rdr wr A R (l.drop k)∧r=shift k (Sch.rdCs (n-s.length) s (l.drop k))
 aside:Aside (fun i=>i=R) w wr
 low:R<w.1.size
 mid:w.1.size<=M
 len:s.length<=n
theorem lJ{w1:wv}(h:Rdr w1 A R l)(o:Aside (fun i=>i=R) w w1)(D:R<w.1.size):jW w (w1.alloc (.map #[] 0)) A R w1.1.size n l (Sch.rdCs n [] l) [] (U I 0 0):=by
 have hb:Below w1.1.size w1 (w1.alloc (.map #[] 0)):=gQy;refine⟨⟨_,_,jK _ _⟩,jq w1,⟨0,h.on hb,?_⟩,o.trans (af hb (fun _=>False)) (fun _ _ h=>h.elim),D,o.size,Nat.zero_le _⟩;rw[List.drop_zero,List.length_nil,Nat.sub_zero];cases Sch.rdCs n [] l with
 |error e=>rfl
 |ok p=>simp[shift]
theorem jW.next{wr L D w4:wv}{r:Except Nat (List Col×Nat)}{s:List Col}{v:Value}(h:jW w wr A R M n l r s v){us:Nat->AV}{V:Nat->Nat->Prop}(ah:aR wr (M+1) v s.length us V s){k j:Nat}{c:Col}{u:AV}(bk:s.length<n)(a4:r=shift k (Sch.rdCs (n-s.length) s (l.drop k)))(J:Sch.rdC s (l.drop k)=.ok (c,j))(X:Aside (fun i=>i=R∨i=M) wr L)(a2:cQ L M (s.length+1) (s++[c]))(Q:Aside (fun i=>i=R) L D)(a8:dx D (fun i=>L.1.size<=i∧i<D.1.size) u c)(bb:Rdr D A R ((l.drop k).drop j)):
  (D.alloc (F u 104)).ownsRow (M+1) 104 9 v s.length (flat us s.length) ∧
  ∀g cap,w4.ownsRow (M+1) 104 9 (U (Y ⟨g,0,I⟩) (s.length+1) cap) (s.length+1) (flat us s.length++u.toList)->(D.alloc (F u 104)).grownBy w4 v.ownBlock->(v.ownBlock=Y g∨g=(D.alloc (F u 104)).1.size) ->
   jW w w4 A R M n l r (s++[c]) (U (Y ⟨g,0,I⟩) (s.length+1) cap):=by
 have a5:=h.low;have a6:=h.mid;have bj:=h.names.lt;have bl:=X.size;have bn:=Q.size;have S:Below D.1.size D (D.alloc (F u 104)):=gQy;have bp:=S.size;have ab:aR L (M+1) v s.length us V s:=ah.aside X (fun g o ak=>by have:=(ah.lt g o).1;omega) (fun i K k E ak=>by have:=(ah.range i K k E).1;omega);obtain⟨bi,be,a0,a1⟩:=Q.split (by omega);have aj:aR bi (M+1) v s.length us V s:=ab.aside be (fun g o ak=>by have:=(ab.lt g o).1;omega) (fun i K k E ak=>by have:=(ab.range i K k E).1;omega);refine⟨((aj.on a1).on S).row,fun g cap a9 o a7=>?_⟩;have bc:=aj.step a1 a8 (fun k E=>⟨by rw[a0];exact E.1,E.2⟩) S (by rw[a0];omega) a9 o a7;have bq:=o.size;have aw:=fun k (E:v.ownBlock=Y k)=>(aj.lt k E);have Z:Aside (fun k=>v.ownBlock=Y k) D w4:=(af S _).trans (G:=fun k=>v.ownBlock=Y k) ⟨o.os,o.tape,o.output,o.size,fun k E a3=>o.block k E (fun J=>a3 J.symm)⟩ (fun _ _ h=>h);refine⟨⟨_,_,by rw[AU,AC];exact bc⟩,?_,⟨k+j,?_,?_⟩,?_,a5,a6,by rw[AU,AC];omega⟩
 ·rw[AU,AC];refine a2.keep ?_;rw[Z.block M (by omega) (fun J=>by have:=(aw M J).1;omega),Q.block M (by omega) (by omega)]
 ·rw[<-AI];exact bb.aside Z (fun i K=>by have:=(aw i K).1;omega)
 ·rw[a4,show n-s.length=(n-(s++[c]).length)+1 by rw[AU,AC];omega,kv,J,sV,mu,AI]
 ·refine((h.aside.trans X (fun i K J=>J.elim id (fun h=>by omega))).trans Q (fun _ _ h=>h)).trans Z (fun i K J=>?_);have:=(aw i J).1;omega
end
section
open Go.RowKit Go.Maps
attribute [local go_sem] ai
theorem uJ(l:L8)(A R:Nat)(w:wv)(h:Rdr w A R l):Calls AW 92 #[mE (Y ⟨R,0,I⟩)] w (RdA w A R l (iG l) (zu w)):=by
  have fq:=@run_makeMap AW;have eb:=h.lt;have a4:=gQq (lI 16 3 (by omega) l A R w h);obtain⟨r,cc⟩:∃r,r=iG l:=⟨_,rfl⟩;have a5:O (r=ap (aQ 16 3 l) fun n k=>if n=0 then qx 4 else ap (Sch.rdCs n [] (l.drop k)) fun s j=>.ok (s,k+j)):=cc;rw[<-cc];obtain⟨eq,a3⟩:∃m,m=aQ 16 3 l:=⟨_,rfl⟩;rw[<-a3] at a5 a4;have co:=gQq a3;clear cc a3 h;cases eq with
  |error S=>
    have ak:O (r=qx S):=a5.out;clear a5;go_enter func92,ntmps92;go_wp2_with fail;refine a4.out.mono ?_;intro e w1 E;obtain⟨Q,o⟩:=E.bad;subst Q;clear E;have ab:=gQq o;clear o a4;go_wp2;rw[ak.out];exact⟨rfl,rfl,ab.out⟩
  |ok nk=>
    obtain⟨n,k⟩:=nk;have fs:n<=16:=count_le co.out.symm;have bq:O (r=if n=0 then qx 4 else ap (Sch.rdCs n [] (l.drop k)) fun s j=>.ok (s,k+j)):=a5.out;clear a5 co;go_enter func92,ntmps92;go_wp2_with fail;refine a4.out.mono ?_;intro e w1 E;obtain⟨v,Q,Z,hrd,o⟩:=E.good;clear E
    replace Z:v=N C (n:Nat):=Z
    subst Z;subst Q;have cn:=gQq o;have b2:=gQq hrd;clear o hrd a4;by_cases cb:n=0
    · have ak:O (r=qx 4):=bq.out.trans (AK cb);have cx:decide ((0:Int)<(n:Int))=false:=AD (by omega);clear bq;subst cb;go_wp2_with fail;refine(cY _ 4 _).mono ?_;rintro e bi ⟨rfl,a9⟩;rw[a9];clear a9 bi;go_wp2;rw[ak.out];exact⟨rfl,rfl,cn.out⟩
    have ak:O (r=ap (Sch.rdCs n [] (l.drop k)) fun s j=>.ok (s,k+j)):=bq.out.trans (AJ cb);have cx:decide (0<n)=true:=AE (by omega);have fv:(n:Int)<=16:=(by omega);clear bq;go_wp2_with fail;try rw[cx]
    refine(cX _ 4 _).mono ?_;rintro e bi ⟨rfl,a9⟩;rw[a9];clear a9 bi;obtain⟨L,b4⟩:∃L,L=l.drop k:=⟨_,rfl⟩;rw[<-b4] at ak b2;have d1:=gQq b4;obtain⟨bN,dr⟩:∃bN,bN=Sch.rdCs n [] L:=⟨_,rfl⟩;have cv:=gQq (lJ (n:=n) b2.out cn.out eb);rw[<-dr] at ak cv;clear dr b4 b2;go_wp2_with fail;go_loopw [4,18] (fun e0 ci wr=>∃(s:List Col) (q:OA) (c:Nat),ci=N C s.length∧e0=U q s.length c∧s.length<=n∧O (jW w wr A R w1.1.size n L bN s (U q s.length c))) (fun _ ci _=>n-(intOf ci).toNat);case atStart=>exact⟨[],I,0,rfl,rfl,Nat.zero_le _,cv.out⟩
    case round=>
      obtain⟨s,q,c,rfl,rfl,f2,K⟩:=hrel;by_cases eg:s.length<n
      · have fc:(s.length:Int)<(n:Int):=(by omega);obtain⟨J,hrd,a2⟩:=K.out.left;obtain⟨us,ck,a8⟩:=K.out.built;have du:=gQq a8;have d2:=gQq a2;have bk:=gQq (xO (L.drop J) A R wr hrd);have bs:=gQq (xL s (L.drop J))
        -- where the column can't be read
        have b0:O (∀S,Sch.rdC s (L.drop J)=qx S->r=qx S):=fun S Q=>by
          have d9:bN=qx S:=by
            rw[a2,show n-s.length=(n-s.length-1)+1 by omega,kv,Q];rfl
          rw[ak.out,d9];rfl
        obtain⟨ev,b9⟩:∃m,m=iD (L.drop J):=⟨_,rfl⟩;rw[<-b9] at bk bs;have cq:=gQq b9;clear hrd a2 a8 b9;go_wp2_with fail;refine bk.out.mono ?_;intro e bi E;cases ev with
        |error S=>
          have a7:O (r=qx S):=b0.out S bs.out;obtain⟨Q,o⟩:=E.bad;subst Q;clear E;have ab:=gQq (K.out.aside.trans o (fun _ _ h=>h));clear o bk;go_wp2;rw[a7.out];exact⟨rfl,rfl,ab.out⟩
        |ok nj=>
          obtain⟨V,j⟩:=nj;obtain⟨v,Q,Z,hrd,o⟩:=E.good;clear E
          replace Z:v=.string V:=Z
          subst Z;subst Q;have el:V.size<=140737488351232:=by
            have X:=cq.out.symm;unfold iD at X;split at X
            · cases X
            · next t k2 ht=>
              split at X
              · cases X
              · injection X with X;injection X with X _;have:=(Sch.text_ok ht).1;rw[<-X];omega
          have a6:O (Sch.rdC s (L.drop J)=if s.any (fun x=>decide (x.name=V)) then qx 71 else ap (lM V ((L.drop J).drop j)) fun c bc=>.ok (c,j+bc)):=bs.out;have bT:=gQq o;have b3:=gQq hrd;have ea:=K.out.names.lt;have fo:=K.out.mid;have cr:O (cQ bi w1.1.size s.length s):=K.out.names.keep (o.block _ ea (by omega));have bn:=gQq (qa el);obtain⟨D,aw,b6⟩:=cr.out.out;have bp:=gQq aw;have bl:=gQq (b6 V);have cu:=gQq (fun d t=>ql aw b6 ⟨V,⟨0,[]⟩,false,V0⟩ d t);obtain⟨ew,dj⟩:∃b,b=s.any (fun x=>decide (x.name=V)):=⟨_,rfl⟩;rw[<-dj] at bl a6;have fx:=o.size;clear o hrd aw b6 bk bs cq dj;cases ew with
          |true=>
            have a7:O (r=qx 71):=b0.out 71 (a6.out.trans (AK (by first | rfl | trivial)));have ab:=gQq (K.out.aside.trans bT.out (fun _ _ h=>h));clear a6;go_wp2_with (first | (at_lookup;refine wpList_lookup_own_ok_int _ rfl _ _ 188 rfl 9 3 C rA underlying188 underlying3 (pL _) w1.1.size s.length D rfl bp.out _ _ rfl bn.out ?_;intro d8 b5 cd;rw[bl.out];clear b5 cd));refine(cY _ 71 _).mono ?_;rintro e ah ⟨rfl,bb⟩;rw[bb];clear bb ah;go_wp2;rw[a7.out];exact⟨rfl,rfl,ab.out⟩
          |false=>
            have bv:O (Sch.rdC s (L.drop J)=ap (lM V ((L.drop J).drop j)) fun c bc=>.ok (c,j+bc)):=a6.out.trans (AJ (by first | decide | simp));clear a6;go_wp2_with (first | (at_lookup;refine wpList_lookup_own_ok_int _ rfl _ _ 188 rfl 9 3 C rA underlying188 underlying3 (pL _) w1.1.size s.length D rfl bp.out _ _ rfl bn.out ?_;intro d8 b5 cd;rw[bl.out];clear b5 cd));refine(cX _ 71 _).mono ?_;rintro e ah ⟨rfl,bb⟩;rw[bb];clear bb ah
            go_wp2_with (first
              | (at_mapUpdate;refine wpList_mapUpdate_own _ rfl _ _ _ 188 rfl 9 3 rA underlying188 _ w1.1.size s.length D rfl bp.out (by unfold maxLen;omega) _ _ _ rfl rfl bn.out _ [] (plainElem_int underlying3 (WalkArith.wf_i64 (by omega))) ?_;intro ah c9 c7
                 have cs:=gQq c9;have aj:=gQq c7;clear c9 c7))
            have bX:O (Aside (fun i=>i=R∨i=w1.1.size) wr ah):=by
              refine(bT.out.mono (fun _ _ h=>.inl h)).trans (G:=fun i=>i=w1.1.size) ⟨aj.out.os,aj.out.tape,aj.out.output,aj.out.size,fun i b7 ec=>aj.out.block i b7 (fun a1=>ec (by injection a1))⟩ (fun _ _ h=>.inr h)
            have d6:O (Rdr ah A R ((L.drop J).drop j)):=b3.out.keep (fun i b7=>aj.out.block i (by have:=b3.out.lt;omega) (fun a1=>by injection a1 with a1;omega)) aj.out.size;have ds:O (Aside (fun i=>i=R) w ah):=K.out.aside.trans bX.out (fun i b7 a1=>a1.elim id (fun h=>by omega));have bj:=gQq (wI V ((L.drop J).drop j) A R ah d6.out);obtain⟨er,b8⟩:∃m,m=lM V ((L.drop J).drop j):=⟨_,rfl⟩;rw[<-b8] at bj bv;have cp:=gQq b8;clear b8 b3 bT bp bl cr bn aj;go_wp2_with fail;refine bj.out.mono ?_;intro e w4 E;cases er with
            |error S=>
              have a7:O (r=qx S):=b0.out S bv.out;obtain⟨Q,o⟩:=E.bad;subst Q;clear E;have ab:=gQq (ds.out.trans o (fun _ _ h=>h));clear o bj;go_wp2;rw[a7.out];exact⟨rfl,rfl,ab.out⟩
            |ok cj=>
              obtain⟨a0,bc⟩:=cj;have d4:O (Sch.rdC s (L.drop J)=.ok (a0,j+bc)):=bv.out;obtain⟨v,Q,Z,hrd,o⟩:=E.good;obtain⟨u,ep,aw⟩:=Z.open;clear E Z;have c5:a0.name=V:=su cp.out.symm;have d3:O (cQ ah w1.1.size (s.length+1) (s++[a0])):=by
                refine cQ.names (l:=s++[⟨V,⟨0,[]⟩,false,V0⟩]) ⟨_,cs.out,cu.out _⟩ ?_;simp[c5]
              have b1:=gQq (fun w5=>K.out.next (w4:=w5) du.out eg d2.out d4.out bX.out d3.out o aw (by rw[<-AI];exact hrd));have ct:=gQq aw;obtain⟨e8,e9,k',eL,eC,ez,e4,e3,e1,e7,e6,e5,e2,en,-⟩:=aw.out;subst en;subst ep;subst Q;unfold aA at ct b1 ⊢;have f0:=o.size;have fy:=bX.out.size;have em:w1.1.size+1<=w4.1.size+1:=(by omega);clear o hrd aw bj bv cp cs cu c5
              go_wp2_with (first|(at_builtin;refine sN (B:=w1.1.size+1) (us:=us) (v:=U q s.length c) (n:=s.length) (b1.out w4).1 (u:=#[.string a0.name,N C k',U eL eC ez,.bool a0.has,N C e4,N C e3,.float .f64 e1,.string e7,U e6 e5 e2]) rfl ct.out.one9 (ad:=w4.1.size) (am w4 _) (by omega) (by simpa using em) (H:=w4.1.size+1) (by simp) rfl rfl rfl rfl ?_;intro cy cw w5 df c6 c8;have d0:=gQq ((b1.out w5).2 cy cw df c6 (by simpa using c8));clear df c6 c8))
              go_roundw;case rel=>
                refine⟨s++[a0],Y ⟨cy,0,I⟩,cw,by simp,by simp,by simp;omega,?_⟩;have:=d0.out;rw[AU,AC];exact this
              case measure=>simp[intOf];omega
      · have fi:¬(s.length:Int)<(n:Int):=(by omega);have a3:n-s.length=0:=(by omega);obtain⟨J,hrd,a2⟩:=K.out.left;obtain⟨us,ck,a8⟩:=K.out.built;have d7:O (r=.ok (s,k+J)):=by
          show _=_;rw[ak.out,a2,a3];rfl
        have dv:O (zu w s (U q s.length c) wr):=⟨us,ck,a8.low (by have:=K.out.mid;omega)⟩;have d5:O (Rdr wr A R (l.drop (k+J))):=by
          show Rdr _ _ _ _;rw[<-AI,<-d1.out];exact hrd
        have ab:=gQq K.out.aside;clear hrd a2 a8 K a3;go_wp2;go_ret;rw[d7.out];exact⟨_,rfl,dv.out,d5.out,ab.out⟩
end
section
open Go.RowKit
theorem uK{s:List Col}{k:Nat}(h:iG l=.ok (s,k)):k<=l.length∧s.length<=16:=by
 unfold iG at h;cases h1:aQ 16 3 l with
 |error e=>rw[h1] at h;cases h
 |ok nk=>
  obtain⟨n,o⟩:=nk;rw[h1,aH] at h;split at h
  ·cases h
  ·cases h2:Sch.rdCs n [] (l.drop o) with
   |error e=>rw[h2] at h;cases h
   |ok sj=>
    obtain⟨s',j⟩:=sj;rw[h2,aH] at h;injection h with h;injection h with hss h;obtain⟨Z,K,L,V,⟨X,E⟩,_⟩:=Sch.rdCs_ok n [] (l.drop o) s' j h2;have D:n<=16:=count_le h1;have Q:s.length<=16:=(by rw[<-hss,K,List.nil_append,L];exact D);have S:o<=l.length:=by
     unfold aQ at h1;split at h1
     ·cases h1
     ·next n' k' hn=>
      split at h1
      ·cases h1
      ·injection h1 with h1;injection h1 with _ h1;have:=(eW hn).1;omega
    have J:=congrArg List.length E;rw[Aj,AU] at J;exact⟨by omega,Q⟩
theorem vG(b:L8):Sch.read b=if 1024<b.length then qx 2 else ap (iG b) fun s k=>if k=b.length then .ok s else qx 5:=by
 unfold Sch.read;split
 ·rfl
 ·unfold iG aQ;cases Sch.num b with
  |error e=>rfl
  |ok nk=>
   obtain⟨n,k⟩:=nk;dsimp only;by_cases D:n=0
   ·subst D;rw[AK rfl,AJ (by omega),aH,AK rfl];rfl
   ·rw[AJ D];by_cases o:16<n
    ·rw[AK o,AK o];rfl
    ·rw[AJ o,AJ o,aH,AJ D];cases Sch.rdCs n [] (b.drop k) with
     |error e=>rfl
     |ok lj=>rfl
theorem jj(k:Int)(w:wv):(Instr.typeAssert (.iface 25 (N C k)) 20 25 false).run AW w=.ok (N C k) w:=by kernel_rfl
theorem iP(p q:Addr)(x:Value)(y:Int)(k:Int)(w:wv)(K:w.cell? p=Y x)(V:w.frozen? p=false)(L:w.cell? q=Y (N C y))(X:w.frozen? q=false)(Q:p≠q):
  CallsD AW 91 #[mE (Y p),mE (Y q)] (.panicking [{ v:=.iface 25 (N C k),recovered:=false }]) w fun e J w'=>
   e=.returned (.tuple #[])∧J=.panicking [{ v:=.iface 25 (N C k),recovered:=true }]∧w'=((w.setCell p (U I 0 0)).setCell q (N C k)).drew:=by
 have S:=jj k;refine callsD_of_wpS func91 rfl fun D o E=>?_;apply wpS_seq;apply wpS_region;simp[wpOpsS,go_sem,recoverD,E,ntmps91,Exit.thenS];refine wpS_of_wp ?_;go_wp2_with fail;go_region_law (fail)
 all_goals
  show bodyPostS AW Tryz.f91 D o _ Exit.normal _ _ _;simp[bodyPostS,results,Tryz.results91]
theorem pD(p q:Addr)(w:wv):
  CallsD AW 91 #[mE (Y p),mE (Y q)] .returning w fun e E w'=>e=.returned (.tuple #[])∧E=.returning∧w'=w:=by
 refine callsD_of_wpS func91 rfl fun o J D=>?_;apply wpS_seq;apply wpS_region;simp[wpOpsS,go_sem,recoverD,D,ntmps91,Exit.thenS];refine wpS_of_wp ?_;go_wp2_with fail;cases o
 simp_all [bodyPostS,results,Tryz.results91]
theorem bw{P:Program}{fn:Func}{p q:Tmp}{E J:TypeId}(h:fn.results=#[.cell p E,.cell q J])(tmps:AV)(w:wv)(g D:Nat)(t:TypeId)(o:AV)(fr:Nat×Nat)(d:TypeDesc)(x:Int)(X:tmps.getD p undef=mE (Y ⟨g,0,I⟩))(Q:w.1[g]?=Y (F o t fr))(aj:P.underlying E=Y d)(hd:(match d with | .struct _ | .array _ _=>true | _=>false)=true)(V:(P.info? E).map (·.size)=Y o.size)(ab:tmps.getD q undef=mE (Y ⟨D,0,I⟩))(S:w.cell? ⟨D,0,I⟩=Y (N C x))(ak:P.underlying J=Y (.int C)):
  (results fn tmps).run P w=.ok (.tuple #[.agg o,N C x]) w:=by
 have Z:tmps[p]?.getD undef=mE (Y ⟨g,0,I⟩):=by simpa using X
 have ah:tmps[q]?.getD undef=mE (Y ⟨D,0,I⟩):=by simpa using ab
 have K:=run_loadVar_row w g t E o fr d Q aj hd V;have L:(loadVar J ⟨D,0,I⟩).run P w=.ok (N C x) w:=by
  simp[go_sem,isAgg,run_underlying ak,S]
 simp[results,h,Z,ah,asAddr,K,L]
structure dL(w W:wv)(x:Value)(y:Int):Prop where
 b0:W.1[w.1.size]?=Y (F #[x] 35 (0,0))
 b1:W.1[w.1.size+1]?=Y (F #[N C y] 25 (0,0))
 size:w.1.size+3<=W.1.size
 below:Below w.1.size w W
theorem iF{p:OA}{c:Nat}(D:At w p l)(J:l.length<=c)(E:l.length<=1024):dL w (((w.alloc (F #[U I 0 0] 35)).alloc (F #[N C 0] 25)).alloc (F #[U p l.length c] 170)) (U I 0 0) 0∧Rdr (((w.alloc (F #[U I 0 0] 35)).alloc (F #[N C 0] 25)).alloc (F #[U p l.length c] 170)) w.1.size (w.1.size+1+1) l:=by
 have hb:Below w.1.size w (((w.alloc (F #[U I 0 0] 35)).alloc (F #[N C 0] 25)).alloc (F #[U p l.length c] 170)):=(gQy.alloc (by simp) _).alloc (by simp;omega) _;refine⟨⟨?_,?_,by simp,hb⟩,⟨⟨p,c,?_,D.on hb,J,fun K a o=>?_⟩,E,by omega⟩⟩
 ·rw[ax _ _ (by simp;omega),ax _ _ (by simp)];exact am w _
 ·rw[ax _ _ (by simp)];have:=am (w.alloc (F #[U I 0 0] 35)) (F #[N C 0] 25);simpa using this
 ·have:=am ((w.alloc (F #[U I 0 0] 35)).alloc (F #[N C 0] 25)) (F #[U p l.length c] 170);simpa using this
 ·obtain⟨b,Q,L,hb,_⟩:=aO D (List.length_pos_iff.2 K);rw[L] at o;injection o with o;subst o;exact hb
theorem dL.step{D:wv}(h:dL w W x y)(o:Aside (fun i=>i=w.1.size+1+1) W D):dL w D x y:=by
 have E:=h.size;exact⟨by rw[o.block _ (by omega) (by omega)];exact h.b0,by rw[o.block _ (by omega) (by omega)];exact h.b1,AG E o.size,h.below.trans (o.below (by omega) (fun k J=>by omega))⟩
theorem dL.setS(h:dL w W x y)(D:Value):dL w (W.setCell ⟨w.1.size,0,I⟩ D) D y:=by
 have E:=h.size;have o:Aside (fun i=>i=w.1.size) W (W.setCell ⟨w.1.size,0,I⟩ D):=al _ _ _ _;exact⟨by rw[an h.b0 0];rfl,by rw[o.block _ (by omega) (by omega)];exact h.b1,AG E o.size,h.below.trans (o.below (by omega) (fun k J=>by omega))⟩
theorem dL.setE(h:dL w W x y)(D:Int):dL w (W.setCell ⟨w.1.size+1,0,I⟩ (N C D)) x D:=by
 have E:=h.size;have o:Aside (fun i=>i=w.1.size+1) W (W.setCell ⟨w.1.size+1,0,I⟩ (N C D)):=al _ _ _ _;exact⟨by rw[o.block _ (by omega) (by omega)];exact h.b0,by rw[an h.b1 0];rfl,AG E o.size,h.below.trans (o.below (by omega) (fun k J=>by omega))⟩
theorem dL.drew(h:dL w W x y):dL w W.drew x y:=⟨h.b0,h.b1,h.size,h.below.drew⟩
theorem lF(p:OA)(l:L8)(c:Nat)(cv:l.length<=140737488351232)(bv:l.length<=c)(w:wv)(X:At w p l):
  Calls AW 63 #[U p l.length c] w (zM w (Sch.read l)):=by
 have cw:∀(fn:Fn) (first cap:AV) (w:wv),(Instr.makeFunc fn first cap).run AW w=.ok (.func fn first cap) w:=fun _ _ _ _=>rfl;obtain⟨r,be⟩:∃r,r=Sch.read l:=⟨_,rfl⟩;have aj:=gQq (be.trans (vG l));rw[<-be];clear be;have cs:=gQq X;by_cases a3:1024<l.length
 ·have b3:(1024:Int)<(l.length:Int):=by omega
  have E:O (r=qx 2):=aj.out.trans (AK a3);clear aj X a3
  go_enter_defers func63,ntmps63
  have bX:O (∀o,(w.alloc (F #[U I 0 0] 35)).1[w.1.size]?=Y (F #[U I 0 0] 35 (0,0))∧((w.alloc (F #[U I 0 0] 35)).alloc o).1[w.1.size]?=Y (F #[U I 0 0] 35 (0,0))∧Below w.1.size w ((w.alloc (F #[U I 0 0] 35)).alloc o)):=fun o=>⟨am w _,by rw[ax _ _ (by simp)];exact am w _,gQy.alloc (by simp) _⟩;go_wp2;obtain⟨-,ck,cn⟩:=bX.out (F #[N C 2] 25);refine⟨_,bw rfl _ _ w.1.size (w.1.size+1) _ #[U I 0 0] _ _ 2 rfl ck underlying35 rfl (by kernel_rfl) rfl (by simp) underlying25,?_⟩;rw[E.out];exact⟨rfl,cn⟩
 have b3:¬(1024:Int)<(l.length:Int):=by omega
 have ak:O (r=ap (iG l) fun s k=>if k=l.length then .ok s else qx 5):=aj.out.trans (AJ a3);obtain⟨W,a2⟩:∃W,W=((w.alloc (F #[U I 0 0] 35)).alloc (F #[N C 0] 25)).alloc (F #[U p l.length c] 170):=⟨_,rfl⟩;have a6:O (dL w W (U I 0 0) 0):=by rw[a2];exact(iF X bv (by omega)).1
 have b2:O (Rdr W w.1.size (w.1.size+1+1) l):=by rw[a2];exact(iF X bv (by omega)).2
 have a8:=gQq a2;have ah:=gQq (uJ l w.1.size (w.1.size+1+1) W b2.out)
 -- a panic that goes through the door
 have bn:O (∀(er:Nat) (a0:wv) (x:Value) (y:Int),r=qx er->dL w a0 x y->∀(tmps:AV) (a9:List Deferred),tmps.getD 2 undef=mE (Y ⟨w.1.size,0,I⟩)->tmps.getD 3 undef=mE (Y ⟨w.1.size+1,0,I⟩)->a9=[{ target:=.fn (.func 91) #[mE (Y ⟨w.1.size,0,I⟩),mE (Y ⟨w.1.size+1,0,I⟩)],args:=#[] }]->bodyPostD AW Tryz.f63 (zM w r) (Exit.panic (dl er)) { tmps:=tmps,defers:=a9 } a0):=by
  intro er a0 x y Q S tmps a9 b4 b5 cd;subst cd;refine leaves_cons (f:=91) (args:=#[mE (Y ⟨w.1.size,0,I⟩),mE (Y ⟨w.1.size+1,0,I⟩)]) (by simp) (by simp[go_sem]) ?_;refine(iP ⟨w.1.size,0,I⟩ ⟨w.1.size+1,0,I⟩ x y er a0 (aa S.b0 0) (ac S.b0 0) (aa S.b1 0) (ac S.b1 0) (by intro cb;injection cb;omega)).mono ?_;rintro e cq cr ⟨rfl,rfl,rfl⟩;have hI3:=((S.setS (U I 0 0)).setE er).drew;refine⟨_,bw rfl tmps _ w.1.size (w.1.size+1) _ #[U I 0 0] _ _ (er:Int) b4 hI3.b0 underlying35 rfl (by kernel_rfl) b5 (aa hI3.b1 0) underlying25,?_⟩;rw[Q];exact⟨rfl,hI3.below⟩
 obtain⟨m,bc⟩:∃m,m=iG l:=⟨_,rfl⟩;rw[<-bc] at ak ah;have bp:=gQq bc;clear aj a2 bc X a3;cases m with
 |error er=>
  have E:O (r=qx er):=ak.out
  go_enter_defers func63,ntmps63
  go_wp2_with fail;rw[<-a8.out];refine ah.out.mono ?_;intro e w1 Z;obtain⟨Q,V⟩:=Z.bad;subst Q;have D:=gQq (a6.out.step V);clear Z V;go_wp2;exact bn.out er w1 _ _ E.out D.out _ _ rfl rfl rfl
 |ok sk=>
  obtain⟨s,k⟩:=sk;obtain⟨bs,cx⟩:=uK bp.out.symm;have E:O (r=if k=l.length then .ok s else qx 5):=ak.out
  go_enter_defers func63,ntmps63
  go_wp2_with fail;rw[<-a8.out];refine ah.out.mono ?_;intro e w1 Z;obtain⟨v,Q,bN,bi,V⟩:=Z.good;subst Q;have D:=gQq (a6.out.step V);have bl:=gQq bN;have ct:=gQq bi;obtain⟨co,c1,bq,b9,cc,-⟩:=bi.out;have cy:=a6.out.size;have c7:w1.cell? ⟨w.1.size,0,I⟩=Y (U I 0 0):=aa D.out.b0 0;have c8:=ac D.out.b0 0;have c5:w1.cell? ⟨w.1.size+1,0,I⟩=Y (N C 0):=aa D.out.b1 0;have c6:=ac D.out.b1 0;have cp:w1.cell? ⟨w.1.size+1+1,0,I⟩=Y (U co (l.drop k).length c1):=aa bq 0;clear Z bN bi V bq b9 cc ah a8 bp ak;obtain⟨us,bO,bb⟩:=bl.out;obtain⟨K,J,rfl,-,-⟩:=bb.cols (by omega);have a5:=gQq bb;obtain⟨L,a1⟩:∃L,L=(l.drop k).length:=⟨_,rfl⟩;rw[<-a1] at cp;rw[Aj] at a1;clear bb bl;by_cases a4:k=l.length
  ·have a7:O (r=.ok s):=E.out.trans (AK a4);have b8:L=0:=(by omega);subst b8;clear E a1 a4;go_wp2_with fail;refine(cX _ 5 _).mono ?_;rintro e bk ⟨rfl,ab⟩;rw[ab];clear ab bk;go_wp2;refine leaves_cons (f:=91) (args:=#[mE (Y ⟨w.1.size,0,I⟩),mE (Y ⟨w.1.size+1,0,I⟩)]) (by simp) (by simp[go_sem]) ?_;refine(pD ⟨w.1.size,0,I⟩ ⟨w.1.size+1,0,I⟩ _).mono ?_;rintro e cq cr ⟨rfl,rfl,rfl⟩;have hI3:=((D.out.setS (U K s.length J)).setS (U K s.length J)).setE 0
   have b6:Aside (fun i=>i=w.1.size∨i=w.1.size+1) w1 (((w1.setCell ⟨w.1.size,0,I⟩ (U K s.length J)).setCell ⟨w.1.size,0,I⟩ (U K s.length J)).setCell ⟨w.1.size+1,0,I⟩ (N C 0)) :=
    (((al w1 w.1.size 0 (U K s.length J)).mono (fun _ _ h=>.inl h)).trans (al _ w.1.size 0 (U K s.length J)) (fun _ _ h=>.inl h)).trans (al _ (w.1.size+1) 0 (N C 0)) (fun _ _ h=>.inr h)
   have b7:=(a5.out.aside b6 (fun g ci Q=>by have:=(a5.out.lt g ci).1;omega) (fun j cj k bs Q=>by have:=(a5.out.range j cj k bs).1;omega)).low (B':=w.1.size) (by omega);refine⟨_,bw rfl _ _ w.1.size (w.1.size+1) _ #[U K s.length J] _ _ 0 rfl hI3.b0 underlying35 rfl (by kernel_rfl) rfl (aa hI3.b1 0) underlying25,?_⟩;rw[a7.out];exact⟨_,rfl,⟨_,us,bO,rfl,b7,by omega⟩,hI3.below⟩
  ·have a7:O (r=qx 5):=E.out.trans (AJ a4);have cu:((L:Int)==0)=false:=bf (by omega);have bT:=gQq (D.out.setS (U K s.length J));clear E a4 a1;go_wp2_with fail;refine(cY _ 5 _).mono ?_;rintro e bk ⟨rfl,ab⟩;rw[ab];clear ab bk;go_wp2;exact bn.out 5 _ _ _ a7.out bT.out _ _ rfl rfl rfl
end
end Go.Proofs.YtngmnfdaedlodaaGreatDoor
