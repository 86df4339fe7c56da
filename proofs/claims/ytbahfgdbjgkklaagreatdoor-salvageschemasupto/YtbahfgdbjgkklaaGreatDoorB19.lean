import Derived.Test.YtbahfgdbjgkklaaGreatDoorB18
set_option maxRecDepth 100000
set_option maxHeartbeats 2000000
namespace Go.Proofs.YtbahfgdbjgkklaaGreatDoor
variable{A M R n:Nat}{W w:World}{l:L8}{x:Value}{y:Int}
section
open Go.RowKit Go.Maps
attribute [local go_sem] af
theorem cW.names{l l':List Col}(h:cW w M n l)(E:l.map Col.name=l'.map Col.name):cW w M n l':=by
 obtain⟨o,z,D⟩:=h.out;refine⟨o,z,fun t=>?_⟩;rw[D t];have e:∀l:List Col,l.any (fun x=>decide (x.name=t))=(l.map Col.name).any (fun x=>decide (x=t)):=fun l=>by rw[List.any_map];rfl
 rw[e l,e l',E]
theorem uD:Sch.name ⟨#[]⟩=false:=by kernel_rfl
theorem yj(s:List Col)(b:L8):Sch.rdC s b=ar (i7 b) fun K j=>if s.any (fun x=>decide (x.name=K)) then .error 71 else ar (mL K (b.drop j)) fun c L=>.ok (c,j+L):=by
 unfold Sch.rdC i7;cases hn:Sch.num b with
 |error e=>
  have E:Sch.text 16 70 b=.error e:=by unfold Sch.text;rw[hn]
  rw[E];rfl
 |ok nk=>
  obtain⟨n,k⟩:=nk;dsimp only;by_cases I:n=0
  ·subst I;have E:Sch.text 16 70 b=.ok (⟨#[]⟩,k+0):=by
    unfold Sch.text;rw[hn];dsimp only;rw[if_neg (by omega),if_neg (by omega)];simp
   rw[if_pos rfl,E];dsimp only;rw[if_pos uD];rfl
  ·rw[if_neg I];cases Sch.text 16 70 b with
   |error e=>rfl
   |ok sj=>
    obtain⟨t,j⟩:=sj;dsimp only;by_cases D:Sch.name t=false
    ·rw[if_pos D,if_pos D];rfl
    ·rw[if_neg D,if_neg D,aK];by_cases o:(s.any (fun x=>decide (x.name=t)))=true
     ·rw[if_pos o,if_pos o]
     ·rw[if_neg o,if_neg o];unfold mL;cases Sch.rdT 4 (b.drop j) with
      |error e=>rfl
      |ok tj=>
       obtain⟨Q,J⟩:=tj;rw[aK,List.drop_drop];dsimp only;cases Sch.bit (b.drop (j+J)) with
       |error e=>rfl
       |ok hj=>
        obtain⟨h,O⟩:=hj;rw[aK];dsimp only;by_cases z:h=0
        ·rw[if_pos z,if_pos z,aK,Nat.add_assoc]
        ·rw[if_neg z,if_neg z,List.drop_drop,Nat.add_assoc];cases Sch.rdV Q (b.drop (j+(J+O))) with
         |error e=>rfl
         |ok vj=>
          obtain⟨v,S⟩:=vj;rw[aK,aK];dsimp only;rw[Nat.add_assoc,Nat.add_assoc]
theorem s8{z:ByteArray}{c:Col}{j:Nat}(h:mL z l=.ok (c,j)):c.name=z:=by
 unfold mL at h;cases h1:Sch.rdT 4 l with
 |error e=>rw[h1] at h;cases h
 |ok tj=>
  obtain⟨t,o⟩:=tj;rw[h1,aK] at h;cases h2:Sch.bit (l.drop o) with
  |error e=>rw[h2] at h;cases h
  |ok hj=>
   obtain⟨E,D⟩:=hj;rw[h2,aK] at h;split at h
   ·injection h with h;injection h with h _;rw[<-h]
   ·cases h3:Sch.rdV t (l.drop (o+D)) with
    |error e=>rw[h3] at h;cases h
    |ok vj=>
     obtain⟨v,I⟩:=vj;rw[h3,aK] at h;injection h with h;injection h with h _;rw[<-h]
def zy(w:World)(s:List Col)(v:Value)(w':World):Prop:=∃us Fs,aT w' w.1.size v s.length us Fs s
def ja(l:L8):Except Nat (List Col×Nat):=ar (aS 16 3 l) fun n k=>if n=0 then .error 4 else ar (Sch.rdCs n [] (l.drop k)) fun s j=>.ok (s,k+j)
structure kL(w wr:World)(A R M n:Nat)(l:L8)(r:Except Nat (List Col×Nat))(s:List Col)(v:Value):Prop where
 built:∃us Fs,aT wr (M+1) v s.length us Fs s
 names:cW wr M s.length s
 left:∃k,Rdr wr A R (l.drop k)∧r=shift k (Sch.rdCs (n-s.length) s (l.drop k))
 aside:Aside (fun i=>i=R) w wr
 low:R<w.1.size
 mid:w.1.size<=M
 len:s.length<=n
theorem mI{w1:World}(h:Rdr w1 A R l)(o:Aside (fun i=>i=R) w w1)(z:R<w.1.size):kL w (w1.alloc (.map #[] 0)) A R w1.1.size n l (Sch.rdCs n [] l) [] (.slice none 0 0):=by
 have hb:Below w1.1.size w1 (w1.alloc (.map #[] 0)):=gQy;refine⟨⟨_,_,gG _ _⟩,j6 w1,⟨0,h.on hb,?_⟩,o.trans (al hb (fun _=>False)) (fun _ _ h=>h.elim),z,o.size,Nat.zero_le _⟩;rw[List.drop_zero,List.length_nil,Nat.sub_zero];cases Sch.rdCs n [] l with
 |error e=>rfl
 |ok p=>simp[shift]
theorem kL.next{wr J z w4:World}{r:Except Nat (List Col×Nat)}{s:List Col}{v:Value}(h:kL w wr A R M n l r s v){us:Nat->AV}{O:Nat->Nat->Prop}(V:aT wr (M+1) v s.length us O s){k j:Nat}{c:Col}{u:AV}(bc:s.length<n)(a0:r=shift k (Sch.rdCs (n-s.length) s (l.drop k)))(E:Sch.rdC s (l.drop k)=.ok (c,j))(Q:Aside (fun i=>i=R∨i=M) wr J)(aj:cW J M (s.length+1) (s++[c]))(K:Aside (fun i=>i=R) J z)(a4:cR z (fun i=>J.1.size<=i∧i<z.1.size) u c)(a6:Rdr z A R ((l.drop k).drop j)):
  (z.alloc (.cells u 40)).ownsRow (M+1) 40 9 v s.length (flat us s.length) ∧
  ∀g cap,w4.ownsRow (M+1) 40 9 (.slice (some ⟨g,0,none⟩) (s.length+1) cap) (s.length+1) (flat us s.length++u.toList)->(z.alloc (.cells u 40)).grownBy w4 v.ownBlock->(v.ownBlock=some g∨g=(z.alloc (.cells u 40)).1.size) ->
   kL w w4 A R M n l r (s++[c]) (.slice (some ⟨g,0,none⟩) (s.length+1) cap):=by
 have a1:=h.low;have a2:=h.mid;have bb:=h.names.lt;have be:=Q.size;have bi:=K.size;have L:Below z.1.size z (z.alloc (.cells u 40)):=gQy;have bj:=L.size;have U:aT J (M+1) v s.length us O s:=V.aside Q (fun g o Y=>by have:=(V.lt g o).1;omega) (fun i I k D Y=>by have:=(V.range i I k D).1;omega);obtain⟨a9,a8,ab,ah⟩:=K.split (by omega);have X:aT a9 (M+1) v s.length us O s:=U.aside a8 (fun g o Y=>by have:=(U.lt g o).1;omega) (fun i I k D Y=>by have:=(U.range i I k D).1;omega);refine⟨((X.on ah).on L).row,fun g cap a5 o a3=>?_⟩;have a7:=X.step ah a4 (fun k D=>⟨by rw[ab];exact D.1,D.2⟩) L (by rw[ab];omega) a5 o a3;have bk:=o.size;have Z:=fun k (D:v.ownBlock=some k)=>(X.lt k D);have S:Aside (fun k=>v.ownBlock=some k) z w4:=(al L _).trans (G:=fun k=>v.ownBlock=some k) ⟨o.os,o.tape,o.output,o.size,fun k D ak=>o.block k D (fun E=>ak E.symm)⟩ (fun _ _ h=>h);refine⟨⟨_,_,by rw[List.length_append,List.length_singleton];exact a7⟩,?_,⟨k+j,?_,?_⟩,?_,a1,a2,by rw[List.length_append,List.length_singleton];omega⟩
 ·rw[List.length_append,List.length_singleton];refine aj.keep ?_;rw[S.block M (by omega) (fun E=>by have:=(Z M E).1;omega),K.block M (by omega) (by omega)]
 ·rw[<-List.drop_drop];exact a6.aside S (fun i I=>by have:=(Z i I).1;omega)
 ·rw[a0,show n-s.length=(n-(s++[c]).length)+1 by rw[List.length_append,List.length_singleton];omega,iF,E,np,iU,List.drop_drop]
 ·refine((h.aside.trans Q (fun i I E=>E.elim id (fun h=>by omega))).trans K (fun _ _ h=>h)).trans S (fun i I E=>?_);have:=(Z i E).1;omega
end
section
open Go.RowKit Go.Maps
attribute [local go_sem] af
theorem vC(l:L8)(A R:Nat)(w:World)(h:Rdr w A R l):Calls Tryz.prog 110 #[.pointer (some ⟨R,0,none⟩)] w (RdA w A R l (ja l) (zy w)):=by
  have ep:=@run_makeMap Tryz.prog;have dn:=h.lt;have a0:=gQq (mH 16 3 (by omega) l A R w h);obtain⟨r,b8⟩:∃r,r=ja l:=⟨_,rfl⟩;have a1:Hid (r=ar (aS 16 3 l) fun n k=>if n=0 then .error 4 else ar (Sch.rdCs n [] (l.drop k)) fun s j=>.ok (s,k+j)):=b8;rw[<-b8];obtain⟨d2,ak⟩:∃m,m=aS 16 3 l:=⟨_,rfl⟩;rw[<-ak] at a1 a0;have cd:=gQq ak;clear b8 ak h;cases d2 with
  |error L=>
    have Y:Hid (r=.error L):=a1.out;clear a1;go_enter Tryz.func110,Tryz.ntmps110;go_wp2_with fail;refine a0.out.mono ?_;intro e w1 hh;obtain⟨K,o⟩:=hh.bad;subst K;clear hh;have U:=gQq o;clear o a0;go_wp2;rw[Y.out];exact⟨rfl,rfl,U.out⟩
  |ok nk=>
    obtain⟨n,k⟩:=nk;have er:n<=16:=count_le cd.out.symm;have bk:Hid (r=if n=0 then .error 4 else ar (Sch.rdCs n [] (l.drop k)) fun s j=>.ok (s,k+j)):=a1.out;clear a1 cd;go_enter Tryz.func110,Tryz.ntmps110;go_wp2_with fail;refine a0.out.mono ?_;intro e w1 hh;obtain⟨v,K,S,J,o⟩:=hh.good;clear hh
    replace S:v=.int .i64 (n:Nat):=S
    subst S;subst K;have cc:=gQq o;have bX:=gQq J;clear o J a0;by_cases b7:n=0
    · have Y:Hid (r=.error 4):=bk.out.trans (if_pos b7);have cq:decide ((0:Int)<(n:Int))=false:=decide_eq_false (by omega);clear bk;subst b7;go_wp2_with fail;refine(dw _ 4 _).mono ?_;rintro e a8 ⟨rfl,a5⟩;rw[a5];clear a5 a8;go_wp2;rw[Y.out];exact⟨rfl,rfl,cc.out⟩
    have Y:Hid (r=ar (Sch.rdCs n [] (l.drop k)) fun s j=>.ok (s,k+j)):=bk.out.trans (if_neg b7);have cq:decide (0<n)=true:=decide_eq_true (by omega);have eu:(n:Int)<=16:=(by omega);clear bk;go_wp2_with fail;try rw[cq]
    refine(du _ 4 _).mono ?_;rintro e a8 ⟨rfl,a5⟩;rw[a5];clear a5 a8;obtain⟨z,b1⟩:∃z,z=l.drop k:=⟨_,rfl⟩;rw[<-b1] at Y bX;have da:=gQq b1;obtain⟨bq,c5⟩:∃bq,bq=Sch.rdCs n [] z:=⟨_,rfl⟩;have co:=gQq (mI (n:=n) bX.out cc.out dn);rw[<-c5] at Y co;clear c5 b1 bX;go_wp2_with fail;go_loopw [4,18] (fun d9 ca wr=>∃(s:List Col) (q:OA) (c:Nat),ca=.int .i64 s.length∧d9=.slice q s.length c∧s.length<=n∧Hid (kL w wr A R w1.1.size n z bq s (.slice q s.length c))) (fun _ ca _=>n-(intOf ca).toNat);case atStart=>exact⟨[],none,0,rfl,rfl,Nat.zero_le _,co.out⟩
    case round=>
      obtain⟨s,q,c,rfl,rfl,e0,I⟩:=hrel;by_cases dr:s.length<n
      · have el:(s.length:Int)<(n:Int):=(by omega);obtain⟨E,J,aj⟩:=I.out.left;obtain⟨us,cb,a4⟩:=I.out.built;have c7:=gQq a4;have db:=gQq aj;have bb:=gQq (yo (z.drop E) A R wr J);have bn:=gQq (yj s (z.drop E))
        -- where the column can't be read
        have bO:Hid (∀L,Sch.rdC s (z.drop E)=.error L->r=.error L):=fun L K=>by
          have dj:bq=.error L:=by
            rw[aj,show n-s.length=(n-s.length-1)+1 by omega,iF,K];rfl
          rw[Y.out,dj];rfl
        obtain⟨d4,b6⟩:∃m,m=i7 (z.drop E):=⟨_,rfl⟩;rw[<-b6] at bb bn;have cf:=gQq b6;clear J aj a4 b6;go_wp2_with fail;refine bb.out.mono ?_;intro e a8 hh;cases d4 with
        |error L=>
          have a3:Hid (r=.error L):=bO.out L bn.out;obtain⟨K,o⟩:=hh.bad;subst K;clear hh;have U:=gQq (I.out.aside.trans o (fun _ _ h=>h));clear o bb;go_wp2;rw[a3.out];exact⟨rfl,rfl,U.out⟩
        |ok nj=>
          obtain⟨O,j⟩:=nj;obtain⟨v,K,S,J,o⟩:=hh.good;clear hh
          replace S:v=.string O:=S
          subst S;subst K;have ds:O.size<=140737488351232:=by
            have Q:=cf.out.symm;unfold i7 at Q;split at Q
            · cases Q
            · next t k2 ht=>
              split at Q
              · cases Q
              · injection Q with Q;injection Q with Q _;have:=(Sch.text_ok ht).1;rw[<-Q];omega
          have a2:Hid (Sch.rdC s (z.drop E)=if s.any (fun x=>decide (x.name=O)) then .error 71 else ar (mL O ((z.drop E).drop j)) fun c a7=>.ok (c,j+a7)):=bn.out;have bs:=gQq o;have b0:=gQq J;have dk:=I.out.names.lt;have en:=I.out.mid;have cg:Hid (cW a8 w1.1.size s.length s):=I.out.names.keep (o.block _ dk (by omega));have bi:=gQq (qX ds);obtain⟨D,Z,b3⟩:=cg.out.out;have bj:=gQq Z;have bc:=gQq (b3 O);have cn:=gQq (fun d t=>qY Z b3 ⟨O,⟨0,[]⟩,false,V0⟩ d t);obtain⟨d5,cy⟩:∃b,b=s.any (fun x=>decide (x.name=O)):=⟨_,rfl⟩;rw[<-cy] at bc a2;have ew:=o.size;clear o J Z b3 bb bn cf cy;cases d5 with
          |true=>
            have a3:Hid (r=.error 71):=bO.out 71 (a2.out.trans (if_pos (by first | rfl | trivial)));have U:=gQq (I.out.aside.trans bs.out (fun _ _ h=>h));clear a2;go_wp2_with (first | (at_lookup;refine wpList_lookup_own_ok_int _ rfl _ _ 249 rfl 9 3 .i64 sA Tryz.underlying249 Tryz.underlying3 (qC _) w1.1.size s.length D rfl bj.out _ _ rfl bi.out ?_;intro di b2 b9;rw[bc.out];clear b2 b9));refine(dw _ 71 _).mono ?_;rintro e V ⟨rfl,a6⟩;rw[a6];clear a6 V;go_wp2;rw[a3.out];exact⟨rfl,rfl,U.out⟩
          |false=>
            have bp:Hid (Sch.rdC s (z.drop E)=ar (mL O ((z.drop E).drop j)) fun c a7=>.ok (c,j+a7)):=a2.out.trans (if_neg (by first | decide | simp));clear a2;go_wp2_with (first | (at_lookup;refine wpList_lookup_own_ok_int _ rfl _ _ 249 rfl 9 3 .i64 sA Tryz.underlying249 Tryz.underlying3 (qC _) w1.1.size s.length D rfl bj.out _ _ rfl bi.out ?_;intro di b2 b9;rw[bc.out];clear b2 b9));refine(du _ 71 _).mono ?_;rintro e V ⟨rfl,a6⟩;rw[a6];clear a6 V
            go_wp2_with (first
              | (at_mapUpdate;refine wpList_mapUpdate_own _ rfl _ _ _ 249 rfl 9 3 sA Tryz.underlying249 _ w1.1.size s.length D rfl bj.out (by unfold maxLen;omega) _ _ _ rfl rfl bi.out _ [] (plainElem_int Tryz.underlying3 (WalkArith.wf_i64 (by omega))) ?_;intro V cw cu
                 have ci:=gQq cw;have X:=gQq cu;clear cw cu))
            have bN:Hid (Aside (fun i=>i=R∨i=w1.1.size) wr V):=by
              refine(bs.out.mono (fun _ _ h=>.inl h)).trans (G:=fun i=>i=w1.1.size) ⟨X.out.os,X.out.tape,X.out.output,X.out.size,fun i b4 dp=>X.out.block i b4 (fun ah=>dp (by injection ah))⟩ (fun _ _ h=>.inr h)
            have df:Hid (Rdr V A R ((z.drop E).drop j)):=b0.out.keep (fun i b4=>X.out.block i (by have:=b0.out.lt;omega) (fun ah=>by injection ah with ah;omega)) X.out.size;have c6:Hid (Aside (fun i=>i=R) w V):=I.out.aside.trans bN.out (fun i b4 ah=>ah.elim id (fun h=>by omega));have a9:=gQq (xr O ((z.drop E).drop j) A R V df.out);obtain⟨d3,b5⟩:∃m,m=mL O ((z.drop E).drop j):=⟨_,rfl⟩;rw[<-b5] at a9 bp;have ce:=gQq b5;clear b5 b0 bs bj bc cg bi X;go_wp2_with fail;refine a9.out.mono ?_;intro e w4 hh;cases d3 with
            |error L=>
              have a3:Hid (r=.error L):=bO.out L bp.out;obtain⟨K,o⟩:=hh.bad;subst K;clear hh;have U:=gQq (c6.out.trans o (fun _ _ h=>h));clear o a9;go_wp2;rw[a3.out];exact⟨rfl,rfl,U.out⟩
            |ok cj=>
              obtain⟨ab,a7⟩:=cj;have dd:Hid (Sch.rdC s (z.drop E)=.ok (ab,j+a7)):=bp.out;obtain⟨v,K,S,J,o⟩:=hh.good;obtain⟨u,d1,Z⟩:=S.open;clear hh S;have cs:ab.name=O:=s8 ce.out.symm;have dc:Hid (cW V w1.1.size (s.length+1) (s++[ab])):=by
                refine cW.names (l:=s++[⟨O,⟨0,[]⟩,false,V0⟩]) ⟨_,ci.out,cn.out _⟩ ?_;simp[cs]
              have bT:=gQq (fun w5=>I.out.next (w4:=w5) c7.out dr db.out dd.out bN.out dc.out o Z (by rw[<-List.drop_drop];exact J));have ck:=gQq Z;obtain⟨eh,ei,k',d8,d7,d6,ed,ec,ea,eg,ef,ee,eb,d0,-⟩:=Z.out;subst d0;subst d1;subst K;unfold av at ck bT ⊢;have eC:=o.size;have ez:=bN.out.size;have dv:w1.1.size+1<=w4.1.size+1:=(by omega);clear o J Z a9 bp ce ci cn cs
              go_wp2_with (first|(at_builtin;refine nc (B:=w1.1.size+1) (us:=us) (v:=.slice q s.length c) (n:=s.length) (bT.out w4).1 (u:=#[.string ab.name,.int .i64 k',.slice d8 d7 d6,.bool ab.has,.int .i64 ed,.int .i64 ec,.float .f64 ea,.string eg,.slice ef ee eb]) rfl ck.out.one9 (ad:=w4.1.size) (am w4 _) (by omega) (by simpa using dv) (H:=w4.1.size+1) (by simp) rfl rfl rfl rfl ?_;intro cr cp w5 cx ct cv;have c9:=gQq ((bT.out w5).2 cr cp cx ct (by simpa using cv));clear cx ct cv))
              go_roundw;case rel=>
                refine⟨s++[ab],some ⟨cr,0,none⟩,cp,by simp,by simp,by simp;omega,?_⟩;have:=c9.out;rw[List.length_append,List.length_singleton];exact this
              case measure=>simp[intOf];omega
      · have em:¬(s.length:Int)<(n:Int):=(by omega);have ak:n-s.length=0:=(by omega);obtain⟨E,J,aj⟩:=I.out.left;obtain⟨us,cb,a4⟩:=I.out.built;have dh:Hid (r=.ok (s,k+E)):=by
          show _=_;rw[Y.out,aj,ak];rfl
        have c8:Hid (zy w s (.slice q s.length c) wr):=⟨us,cb,a4.low (by have:=I.out.mid;omega)⟩;have de:Hid (Rdr wr A R (l.drop (k+E))):=by
          show Rdr _ _ _ _;rw[<-List.drop_drop,<-da.out];exact J
        have U:=gQq I.out.aside;clear J aj a4 I ak;go_wp2;go_ret;rw[dh.out];exact⟨_,rfl,c8.out,de.out,U.out⟩
end
section
open Go.RowKit
theorem vD{s:List Col}{k:Nat}(h:ja l=.ok (s,k)):k<=l.length∧s.length<=16:=by
 unfold ja at h;cases h1:aS 16 3 l with
 |error e=>rw[h1] at h;cases h
 |ok nk=>
  obtain⟨n,o⟩:=nk;rw[h1,aK] at h;split at h
  ·cases h
  ·cases h2:Sch.rdCs n [] (l.drop o) with
   |error e=>rw[h2] at h;cases h
   |ok sj=>
    obtain⟨L,j⟩:=sj;rw[h2,aK] at h;injection h with h;injection h with hss h;obtain⟨U,I,J,Q,⟨S,D⟩,_⟩:=Sch.rdCs_ok n [] (l.drop o) L j h2;have z:n<=16:=count_le h1;have K:s.length<=16:=(by rw[<-hss,I,List.nil_append,J];exact z);have O:o<=l.length:=by
     unfold aS at h1;split at h1
     ·cases h1
     ·next n' k' hn=>
      split at h1
      ·cases h1
      ·injection h1 with h1;injection h1 with _ h1;have:=(fH hn).1;omega
    have E:=congrArg List.length D;rw[List.length_drop,List.length_append] at E;exact⟨by omega,K⟩
theorem wL(b:L8):Sch.read b=if 1024<b.length then .error 2 else ar (ja b) fun s k=>if k=b.length then .ok s else .error 5:=by
 unfold Sch.read;split
 ·rfl
 ·unfold ja aS;cases Sch.num b with
  |error e=>rfl
  |ok nk=>
   obtain⟨n,k⟩:=nk;dsimp only;by_cases z:n=0
   ·subst z;rw[if_pos rfl,if_neg (by omega),aK,if_pos rfl];rfl
   ·rw[if_neg z];by_cases o:16<n
    ·rw[if_pos o,if_pos o];rfl
    ·rw[if_neg o,if_neg o,aK,if_neg z];cases Sch.rdCs n [] (b.drop k) with
     |error e=>rfl
     |ok lj=>rfl
theorem jP(k:Int)(w:World):(Instr.typeAssert (.iface 68 (.int .i64 k)) 20 68 false).run Tryz.prog w=.ok (.int .i64 k) w:=by kernel_rfl
theorem jm(p q:Addr)(x:Value)(y:Int)(k:Int)(w:World)(I:w.cell? p=some x)(O:w.frozen? p=false)(J:w.cell? q=some (.int .i64 y))(Q:w.frozen? q=false)(K:p≠q):
  CallsD Tryz.prog 109 #[.pointer (some p),.pointer (some q)] (.panicking [{ v:=.iface 68 (.int .i64 k),recovered:=false }]) w fun e E w'=>
   e=.returned (.tuple #[])∧E=.panicking [{ v:=.iface 68 (.int .i64 k),recovered:=true }]∧w'=((w.setCell p (.slice none 0 0)).setCell q (.int .i64 k)).drew:=by
 have L:=jP k;refine callsD_of_wpS Tryz.func109 rfl fun z o D=>?_;apply wpS_seq;apply wpS_region;simp[wpOpsS,go_sem,recoverD,D,Tryz.ntmps109,Exit.thenS];refine wpS_of_wp ?_;go_wp2_with fail;go_region_law (fail)
 all_goals
  show bodyPostS Tryz.prog Tryz.f109 z o _ Exit.normal _ _ _;simp[bodyPostS,results,Tryz.results109]
theorem qp(p q:Addr)(w:World):
  CallsD Tryz.prog 109 #[.pointer (some p),.pointer (some q)] .returning w fun e D w'=>e=.returned (.tuple #[])∧D=.returning∧w'=w:=by
 refine callsD_of_wpS Tryz.func109 rfl fun o E z=>?_;apply wpS_seq;apply wpS_region;simp[wpOpsS,go_sem,recoverD,z,Tryz.ntmps109,Exit.thenS];refine wpS_of_wp ?_;go_wp2_with fail;cases o
 simp_all [bodyPostS,results,Tryz.results109]
theorem bu{P:Program}{fn:Func}{p q:Tmp}{D E:TypeId}(h:fn.results=#[.cell p D,.cell q E])(tmps:AV)(w:World)(g z:Nat)(t:TypeId)(o:AV)(fr:Nat×Nat)(d:TypeDesc)(x:Int)(Q:tmps.getD p undef=.pointer (some ⟨g,0,none⟩))(K:w.1[g]?=some (.cells o t fr))(X:P.underlying D=some d)(hd:(match d with | .struct _ | .array _ _=>true | _=>false)=true)(O:(P.info? D).map (·.size)=some o.size)(U:tmps.getD q undef=.pointer (some ⟨z,0,none⟩))(L:w.cell? ⟨z,0,none⟩=some (.int .i64 x))(Y:P.underlying E=some (.int .i64)):
  (results fn tmps).run P w=.ok (.tuple #[.agg o,.int .i64 x]) w:=by
 have S:tmps[p]?.getD undef=.pointer (some ⟨g,0,none⟩):=by simpa using Q
 have V:tmps[q]?.getD undef=.pointer (some ⟨z,0,none⟩):=by simpa using U
 have I:=run_loadVar_row w g t D o fr d K X hd O;have J:(loadVar E ⟨z,0,none⟩).run P w=.ok (.int .i64 x) w:=by
  simp[go_sem,isAgg,run_underlying Y,L]
 simp[results,h,S,V,asAddr,I,J]
structure ej(w W:World)(x:Value)(y:Int):Prop where
 b0:W.1[w.1.size]?=some (.cells #[x] 29 (0,0))
 b1:W.1[w.1.size+1]?=some (.cells #[.int .i64 y] 68 (0,0))
 size:w.1.size+3<=W.1.size
 below:Below w.1.size w W
theorem i8{p:OA}{c:Nat}(z:At w p l)(E:l.length<=c)(D:l.length<=1024):ej w (((w.alloc (.cells #[.slice none 0 0] 29)).alloc (.cells #[.int .i64 0] 68)).alloc (.cells #[.slice p l.length c] 184)) (.slice none 0 0) 0∧Rdr (((w.alloc (.cells #[.slice none 0 0] 29)).alloc (.cells #[.int .i64 0] 68)).alloc (.cells #[.slice p l.length c] 184)) w.1.size (w.1.size+1+1) l:=by
 have hb:Below w.1.size w (((w.alloc (.cells #[.slice none 0 0] 29)).alloc (.cells #[.int .i64 0] 68)).alloc (.cells #[.slice p l.length c] 184)):=(gQy.alloc (by simp) _).alloc (by simp;omega) _;refine⟨⟨?_,?_,by simp,hb⟩,⟨⟨p,c,?_,z.on hb,E,fun I a o=>?_⟩,D,by omega⟩⟩
 ·rw[aG _ _ (by simp;omega),aG _ _ (by simp)];exact am w _
 ·rw[aG _ _ (by simp)];have:=am (w.alloc (.cells #[.slice none 0 0] 29)) (.cells #[.int .i64 0] 68);simpa using this
 ·have:=am ((w.alloc (.cells #[.slice none 0 0] 29)).alloc (.cells #[.int .i64 0] 68)) (.cells #[.slice p l.length c] 184);simpa using this
 ·obtain⟨b,K,J,hb,_⟩:=aC z (List.length_pos_iff.2 I);rw[J] at o;injection o with o;subst o;exact hb
theorem ej.step{z:World}(h:ej w W x y)(o:Aside (fun i=>i=w.1.size+1+1) W z):ej w z x y:=by
 have D:=h.size;exact⟨by rw[o.block _ (by omega) (by omega)];exact h.b0,by rw[o.block _ (by omega) (by omega)];exact h.b1,Nat.le_trans D o.size,h.below.trans (o.below (by omega) (fun k E=>by omega))⟩
theorem ej.setS(h:ej w W x y)(z:Value):ej w (W.setCell ⟨w.1.size,0,none⟩ z) z y:=by
 have D:=h.size;have o:Aside (fun i=>i=w.1.size) W (W.setCell ⟨w.1.size,0,none⟩ z):=ag _ _ _ _;exact⟨by rw[ai h.b0 0];rfl,by rw[o.block _ (by omega) (by omega)];exact h.b1,Nat.le_trans D o.size,h.below.trans (o.below (by omega) (fun k E=>by omega))⟩
theorem ej.setE(h:ej w W x y)(z:Int):ej w (W.setCell ⟨w.1.size+1,0,none⟩ (.int .i64 z)) x z:=by
 have D:=h.size;have o:Aside (fun i=>i=w.1.size+1) W (W.setCell ⟨w.1.size+1,0,none⟩ (.int .i64 z)):=ag _ _ _ _;exact⟨by rw[o.block _ (by omega) (by omega)];exact h.b0,by rw[ai h.b1 0];rfl,Nat.le_trans D o.size,h.below.trans (o.below (by omega) (fun k E=>by omega))⟩
theorem ej.drew(h:ej w W x y):ej w W.drew x y:=⟨h.b0,h.b1,h.size,h.below.drew⟩
theorem ri(p:OA)(l:L8)(c:Nat)(co:l.length<=140737488351232)(bp:l.length<=c)(w:World)(Q:At w p l):
  Calls Tryz.prog 71 #[.slice p l.length c] w (yU w (Sch.read l)):=by
 have cp:∀(fn:Fn) (first cap:AV) (w:World),(Instr.makeFunc fn first cap).run Tryz.prog w=.ok (.func fn first cap) w:=fun _ _ _ _=>rfl;obtain⟨r,a8⟩:∃r,r=Sch.read l:=⟨_,rfl⟩;have X:=gQq (a8.trans (wL l));rw[<-a8];clear a8;have cj:=gQq Q;by_cases ak:1024<l.length
 ·have bT:(1024:Int)<(l.length:Int):=by omega
  have D:Hid (r=.error 2):=X.out.trans (if_pos ak);clear X Q ak
  go_enter_defers Tryz.func71,Tryz.ntmps71
  have bN:Hid (∀o,(w.alloc (.cells #[.slice none 0 0] 29)).1[w.1.size]?=some (.cells #[.slice none 0 0] 29 (0,0))∧((w.alloc (.cells #[.slice none 0 0] 29)).alloc o).1[w.1.size]?=some (.cells #[.slice none 0 0] 29 (0,0))∧Below w.1.size w ((w.alloc (.cells #[.slice none 0 0] 29)).alloc o)):=fun o=>⟨am w _,by rw[aG _ _ (by simp)];exact am w _,gQy.alloc (by simp) _⟩;go_wp2;obtain⟨-,cc,cd⟩:=bN.out (.cells #[.int .i64 2] 68);refine⟨_,bu rfl _ _ w.1.size (w.1.size+1) _ #[.slice none 0 0] _ _ 2 rfl cc Tryz.underlying29 rfl (by kernel_rfl) rfl (by simp) Tryz.underlying68,?_⟩;rw[D.out];exact⟨rfl,cd⟩
 have bT:¬(1024:Int)<(l.length:Int):=by omega
 have Y:Hid (r=ar (ja l) fun s k=>if k=l.length then .ok s else .error 5):=X.out.trans (if_neg ak);obtain⟨W,aj⟩:∃W,W=((w.alloc (.cells #[.slice none 0 0] 29)).alloc (.cells #[.int .i64 0] 68)).alloc (.cells #[.slice p l.length c] 184):=⟨_,rfl⟩;have a2:Hid (ej w W (.slice none 0 0) 0):=by rw[aj];exact(i8 Q bp (by omega)).1
 have bO:Hid (Rdr W w.1.size (w.1.size+1+1) l):=by rw[aj];exact(i8 Q bp (by omega)).2
 have a4:=gQq aj;have V:=gQq (vC l w.1.size (w.1.size+1+1) W bO.out)
 -- a panic that goes through the door
 have bi:Hid (∀(er:Nat) (ab:World) (x:Value) (y:Int),r=.error er->ej w ab x y->∀(tmps:AV) (a5:List Deferred),tmps.getD 2 undef=.pointer (some ⟨w.1.size,0,none⟩)->tmps.getD 3 undef=.pointer (some ⟨w.1.size+1,0,none⟩)->a5=[{ target:=.fn (.func 109) #[.pointer (some ⟨w.1.size,0,none⟩),.pointer (some ⟨w.1.size+1,0,none⟩)],args:=#[] }]->bodyPostD Tryz.prog Tryz.f71 (yU w r) (Exit.panic (dK er)) { tmps:=tmps,defers:=a5 } ab):=by
  intro er ab x y K L tmps a5 bX b2 b9;subst b9;refine leaves_cons (f:=109) (args:=#[.pointer (some ⟨w.1.size,0,none⟩),.pointer (some ⟨w.1.size+1,0,none⟩)]) (by simp) (by simp[go_sem]) ?_;refine(jm ⟨w.1.size,0,none⟩ ⟨w.1.size+1,0,none⟩ x y er ab (aa L.b0 0) (ac L.b0 0) (aa L.b1 0) (ac L.b1 0) (by intro b7;injection b7;omega)).mono ?_;rintro e cg ci ⟨rfl,rfl,rfl⟩;have J:=((L.setS (.slice none 0 0)).setE er).drew;refine⟨_,bu rfl tmps _ w.1.size (w.1.size+1) _ #[.slice none 0 0] _ _ (er:Int) bX J.b0 Tryz.underlying29 rfl (by kernel_rfl) b2 (aa J.b1 0) Tryz.underlying68,?_⟩;rw[K];exact⟨rfl,J.below⟩
 obtain⟨m,a7⟩:∃m,m=ja l:=⟨_,rfl⟩;rw[<-a7] at Y V;have bj:=gQq a7;clear X aj a7 Q ak;cases m with
 |error er=>
  have D:Hid (r=.error er):=Y.out
  go_enter_defers Tryz.func71,Tryz.ntmps71
  go_wp2_with fail;rw[<-a4.out];refine V.out.mono ?_;intro e w1 S;obtain⟨K,O⟩:=S.bad;subst K;have z:=gQq (a2.out.step O);clear S O;go_wp2;exact bi.out er w1 _ _ D.out z.out _ _ rfl rfl rfl
 |ok sk=>
  obtain⟨s,k⟩:=sk;obtain⟨bn,cq⟩:=vD bj.out.symm;have D:Hid (r=if k=l.length then .ok s else .error 5):=Y.out
  go_enter_defers Tryz.func71,Tryz.ntmps71
  go_wp2_with fail;rw[<-a4.out];refine V.out.mono ?_;intro e w1 S;obtain⟨v,K,bq,a9,O⟩:=S.good;subst K;have z:=gQq (a2.out.step O);have be:=gQq bq;have ck:=gQq a9;obtain⟨ce,c1,bk,b6,b8,-⟩:=a9.out;have cr:=a2.out.size;have cu:w1.cell? ⟨w.1.size,0,none⟩=some (.slice none 0 0):=aa z.out.b0 0;have cv:=ac z.out.b0 0;have cs:w1.cell? ⟨w.1.size+1,0,none⟩=some (.int .i64 0):=aa z.out.b1 0;have ct:=ac z.out.b1 0;have cf:w1.cell? ⟨w.1.size+1+1,0,none⟩=some (.slice ce (l.drop k).length c1):=aa bk 0;clear S bq a9 O bk b6 b8 V a4 bj Y;obtain⟨us,br,a6⟩:=be.out;obtain⟨I,E,rfl,-,-⟩:=a6.cols (by omega);have a1:=gQq a6;obtain⟨Z,ah⟩:∃Z,Z=(l.drop k).length:=⟨_,rfl⟩;rw[<-ah] at cf;rw[List.length_drop] at ah;clear a6 be;by_cases a0:k=l.length
  ·have a3:Hid (r=.ok s):=D.out.trans (if_pos a0);have b5:Z=0:=(by omega);subst b5;clear D ah a0;go_wp2_with fail;refine(du _ 5 _).mono ?_;rintro e bc ⟨rfl,U⟩;rw[U];clear U bc;go_wp2;refine leaves_cons (f:=109) (args:=#[.pointer (some ⟨w.1.size,0,none⟩),.pointer (some ⟨w.1.size+1,0,none⟩)]) (by simp) (by simp[go_sem]) ?_;refine(qp ⟨w.1.size,0,none⟩ ⟨w.1.size+1,0,none⟩ _).mono ?_;rintro e cg ci ⟨rfl,rfl,rfl⟩;have J:=((z.out.setS (.slice I s.length E)).setS (.slice I s.length E)).setE 0
   have b3:Aside (fun i=>i=w.1.size∨i=w.1.size+1) w1 (((w1.setCell ⟨w.1.size,0,none⟩ (.slice I s.length E)).setCell ⟨w.1.size,0,none⟩ (.slice I s.length E)).setCell ⟨w.1.size+1,0,none⟩ (.int .i64 0)) :=
    (((ag w1 w.1.size 0 (.slice I s.length E)).mono (fun _ _ h=>.inl h)).trans (ag _ w.1.size 0 (.slice I s.length E)) (fun _ _ h=>.inl h)).trans (ag _ (w.1.size+1) 0 (.int .i64 0)) (fun _ _ h=>.inr h)
   have b4:=(a1.out.aside b3 (fun g ca K=>by have:=(a1.out.lt g ca).1;omega) (fun j cb k bn K=>by have:=(a1.out.range j cb k bn).1;omega)).low (B':=w.1.size) (by omega);refine⟨_,bu rfl _ _ w.1.size (w.1.size+1) _ #[.slice I s.length E] _ _ 0 rfl J.b0 Tryz.underlying29 rfl (by kernel_rfl) rfl (aa J.b1 0) Tryz.underlying68,?_⟩;rw[a3.out];exact⟨_,rfl,⟨_,us,br,rfl,b4,by omega⟩,J.below⟩
  ·have a3:Hid (r=.error 5):=D.out.trans (if_neg a0);have cn:((Z:Int)==0)=false:=bd (by omega);have bs:=gQq (z.out.setS (.slice I s.length E));clear D a0 ah;go_wp2_with fail;refine(dw _ 5 _).mono ?_;rintro e bc ⟨rfl,U⟩;rw[U];clear U bc;go_wp2;exact bi.out 5 _ _ _ a3.out bs.out _ _ rfl rfl rfl
end
end Go.Proofs.YtbahfgdbjgkklaaGreatDoor
