import Derived.Test.YtdkammppnkhhoaaGreatDoorB18
set_option maxRecDepth 100000
set_option maxHeartbeats 2000000
namespace Go.Proofs.YtdkammppnkhhoaaGreatDoor
variable{A M R n:Nat}{W w:World}{l:L8}{x:Value}{y:Int}
section
open Go.RowKit Go.Maps
attribute [local go_sem] am
theorem cI.names{l l':List Col}(h:cI w M n l)(E:l.map Col.name=l'.map Col.name):cI w M n l':=by
 obtain⟨o,z,D⟩:=h.out;refine⟨o,z,fun t=>?_⟩;rw[D t];have e:∀l:List Col,l.any (fun x=>decide (x.name=t))=(l.map Col.name).any (fun x=>decide (x=t)):=fun l=>by rw[List.any_map];rfl
 rw[e l,e l',E]
theorem sx:Sch.name ⟨#[]⟩=false:=by kernel_rfl
theorem vO(s:List Col)(b:L8):Sch.rdC s b=ao (gS b) fun K j=>if s.any (fun x=>decide (x.name=K)) then .error 71 else ao (kX K (b.drop j)) fun c L=>.ok (c,j+L):=by
 unfold Sch.rdC gS;cases hn:Sch.num b with
 |error e=>
  have E:Sch.text 16 70 b=.error e:=by unfold Sch.text;rw[hn]
  rw[E];rfl
 |ok nk=>
  obtain⟨n,k⟩:=nk;dsimp only;by_cases I:n=0
  ·subst I;have E:Sch.text 16 70 b=.ok (⟨#[]⟩,k+0):=by
    unfold Sch.text;rw[hn];dsimp only;rw[if_neg (by omega),if_neg (by omega)];simp
   rw[if_pos rfl,E];dsimp only;rw[if_pos sx];rfl
  ·rw[if_neg I];cases Sch.text 16 70 b with
   |error e=>rfl
   |ok sj=>
    obtain⟨t,j⟩:=sj;dsimp only;by_cases D:Sch.name t=false
    ·rw[if_pos D,if_pos D];rfl
    ·rw[if_neg D,if_neg D,aQ];by_cases o:(s.any (fun x=>decide (x.name=t)))=true
     ·rw[if_pos o,if_pos o]
     ·rw[if_neg o,if_neg o];unfold kX;cases Sch.rdT 4 (b.drop j) with
      |error e=>rfl
      |ok tj=>
       obtain⟨U,J⟩:=tj;rw[aQ,List.drop_drop];dsimp only;cases Sch.bit (b.drop (j+J)) with
       |error e=>rfl
       |ok hj=>
        obtain⟨h,O⟩:=hj;rw[aQ];dsimp only;by_cases z:h=0
        ·rw[if_pos z,if_pos z,aQ,Nat.add_assoc]
        ·rw[if_neg z,if_neg z,List.drop_drop,Nat.add_assoc];cases Sch.rdV U (b.drop (j+(J+O))) with
         |error e=>rfl
         |ok vj=>
          obtain⟨v,V⟩:=vj;rw[aQ,aQ];dsimp only;rw[Nat.add_assoc,Nat.add_assoc]
theorem qM{z:ByteArray}{c:Col}{j:Nat}(h:kX z l=.ok (c,j)):c.name=z:=by
 unfold kX at h;cases h1:Sch.rdT 4 l with
 |error e=>rw[h1] at h;cases h
 |ok tj=>
  obtain⟨t,o⟩:=tj;rw[h1,aQ] at h;cases h2:Sch.bit (l.drop o) with
  |error e=>rw[h2] at h;cases h
  |ok hj=>
   obtain⟨E,D⟩:=hj;rw[h2,aQ] at h;split at h
   ·injection h with h;injection h with h _;rw[<-h]
   ·cases h3:Sch.rdV t (l.drop (o+D)) with
    |error e=>rw[h3] at h;cases h
    |ok vj=>
     obtain⟨v,I⟩:=vj;rw[h3,aQ] at h;injection h with h;injection h with h _;rw[<-h]
def xz(w:World)(s:List Col)(v:Value)(w':World):Prop:=∃us Fs,aT w' w.1.size v s.length us Fs s
def gU(l:L8):Except Nat (List Col×Nat):=ao (bu 16 3 l) fun n k=>if n=0 then .error 4 else ao (Sch.rdCs n [] (l.drop k)) fun s j=>.ok (s,k+j)
structure js(w wr:World)(A R M n:Nat)(l:L8)(r:Except Nat (List Col×Nat))(s:List Col)(v:Value):Prop where
 built:∃us Fs,aT wr (M+1) v s.length us Fs s
 names:cI wr M s.length s
 left:∃k,Rdr wr A R (l.drop k)∧r=shift k (Sch.rdCs (n-s.length) s (l.drop k))
 aside:Aside (fun i=>i=R) w wr
 low:R<w.1.size
 mid:w.1.size<=M
 len:s.length<=n
theorem kV{w1:World}(h:Rdr w1 A R l)(o:Aside (fun i=>i=R) w w1)(z:R<w.1.size):js w (w1.alloc (.map #[] 0)) A R w1.1.size n l (Sch.rdCs n [] l) [] (.slice none 0 0):=by
 have hb:Below w1.1.size w1 (w1.alloc (.map #[] 0)):=xV;refine⟨⟨_,_,fB _ _⟩,ja w1,⟨0,h.on hb,?_⟩,o.trans (ae hb (fun _=>False)) (fun _ _ h=>h.elim),z,o.size,Nat.zero_le _⟩;rw[List.drop_zero,List.length_nil,Nat.sub_zero];cases Sch.rdCs n [] l with
 |error e=>rfl
 |ok p=>simp[shift]
theorem js.next{wr J z w4:World}{r:Except Nat (List Col×Nat)}{s:List Col}{v:Value}(h:js w wr A R M n l r s v){us:Nat->AV}{O:Nat->Nat->Prop}(Y:aT wr (M+1) v s.length us O s){k j:Nat}{c:Col}{u:AV}(bj:s.length<n)(a3:r=shift k (Sch.rdCs (n-s.length) s (l.drop k)))(E:Sch.rdC s (l.drop k)=.ok (c,j))(U:Aside (fun i=>i=R∨i=M) wr J)(a1:cI J M (s.length+1) (s++[c]))(K:Aside (fun i=>i=R) J z)(a7:cG z (fun i=>J.1.size<=i∧i<z.1.size) u c)(a9:Rdr z A R ((l.drop k).drop j)):
  (z.alloc (.cells u 79)).ownsRow (M+1) 79 9 v s.length (flat us s.length) ∧
  ∀g cap,w4.ownsRow (M+1) 79 9 (.slice (some ⟨g,0,none⟩) (s.length+1) cap) (s.length+1) (flat us s.length++u.toList)->(z.alloc (.cells u 79)).grownBy w4 v.ownBlock->(v.ownBlock=some g∨g=(z.alloc (.cells u 79)).1.size) ->
   js w w4 A R M n l r (s++[c]) (.slice (some ⟨g,0,none⟩) (s.length+1) cap):=by
 have a4:=h.low;have a5:=h.mid;have be:=h.names.lt;have bk:=U.size;have bl:=K.size;have L:Below z.1.size z (z.alloc (.cells u 79)):=xV;have bn:=L.size;have X:aT J (M+1) v s.length us O s:=Y.aside U (fun g o ah=>by have:=(Y.lt g o).1;omega) (fun i I k D ah=>by have:=(Y.range i I k D).1;omega);obtain⟨bd,bc,ak,a0⟩:=K.split (by omega);have Z:aT bd (M+1) v s.length us O s:=X.aside bc (fun g o ah=>by have:=(X.lt g o).1;omega) (fun i I k D ah=>by have:=(X.range i I k D).1;omega);refine⟨((Z.on a0).on L).row,fun g cap a8 o a6=>?_⟩;have bb:=Z.step a0 a7 (fun k D=>⟨by rw[ak];exact D.1,D.2⟩) L (by rw[ak];omega) a8 o a6;have bp:=o.size;have aj:=fun k (D:v.ownBlock=some k)=>(Z.lt k D);have V:Aside (fun k=>v.ownBlock=some k) z w4:=(ae L _).trans (G:=fun k=>v.ownBlock=some k) ⟨o.os,o.tape,o.output,o.size,fun k D a2=>o.block k D (fun E=>a2 E.symm)⟩ (fun _ _ h=>h);refine⟨⟨_,_,by rw[List.length_append,List.length_singleton];exact bb⟩,?_,⟨k+j,?_,?_⟩,?_,a4,a5,by rw[List.length_append,List.length_singleton];omega⟩
 ·rw[List.length_append,List.length_singleton];refine a1.keep ?_;rw[V.block M (by omega) (fun E=>by have:=(aj M E).1;omega),K.block M (by omega) (by omega)]
 ·rw[<-List.drop_drop];exact a9.aside V (fun i I=>by have:=(aj i I).1;omega)
 ·rw[a3,show n-s.length=(n-(s++[c]).length)+1 by rw[List.length_append,List.length_singleton];omega,gD,E,lL,gM,List.drop_drop]
 ·refine((h.aside.trans U (fun i I E=>E.elim id (fun h=>by omega))).trans K (fun _ _ h=>h)).trans V (fun i I E=>?_);have:=(aj i E).1;omega
end
section
open Go.RowKit Go.Maps
attribute [local go_sem] am
theorem tl(l:L8)(A R:Nat)(w:World)(h:Rdr w A R l):Calls Tryz.prog 97 #[.pointer (some ⟨R,0,none⟩)] w (RdA w A R l (gU l) (xz w)):=by
  have fy:=@run_makeMap Tryz.prog;have em:=h.lt;have a3:=xX (kU 16 3 (by omega) l A R w h);obtain⟨r,cc⟩:∃r,r=gU l:=⟨_,rfl⟩;have a4:Hid (r=ao (bu 16 3 l) fun n k=>if n=0 then .error 4 else ao (Sch.rdCs n [] (l.drop k)) fun s j=>.ok (s,k+j)):=cc;rw[<-cc];obtain⟨eC,a2⟩:∃m,m=bu 16 3 l:=⟨_,rfl⟩;rw[<-a2] at a4 a3;have cp:=xX a2;clear cc a2 h;cases eC with
  |error L=>
    have ah:Hid (r=.error L):=a4.out;clear a4;go_enter Tryz.func97,Tryz.ntmps97;go_wp2_with fail;refine a3.out.mono ?_;intro e w1 hh;obtain⟨K,o⟩:=hh.bad;subst K;clear hh;have X:=xX o;clear o a3;go_wp2;rw[ah.out];exact⟨rfl,rfl,X.out⟩
  |ok nk=>
    obtain⟨n,k⟩:=nk;have f0:n<=16:=count_le cp.out.symm;have bp:Hid (r=if n=0 then .error 4 else ao (Sch.rdCs n [] (l.drop k)) fun s j=>.ok (s,k+j)):=a4.out;clear a4 cp;go_enter Tryz.func97,Tryz.ntmps97;go_wp2_with fail;refine a3.out.mono ?_;intro e w1 hh;obtain⟨v,K,V,J,o⟩:=hh.good;clear hh
    replace V:v=.int .i64 (n:Nat):=V
    subst V;subst K;have co:=xX o;have b2:=xX J;clear o J a3;by_cases cb:n=0
    · have ah:Hid (r=.error 4):=bp.out.trans (if_pos cb);have c6:decide ((0:Int)<(n:Int))=false:=decide_eq_false (by omega);clear bp;subst cb;go_wp2_with fail;refine(cQ _ 4 _).mono ?_;rintro e bc ⟨rfl,a8⟩;rw[a8];clear a8 bc;go_wp2;rw[ah.out];exact⟨rfl,rfl,co.out⟩
    have ah:Hid (r=ao (Sch.rdCs n [] (l.drop k)) fun s j=>.ok (s,k+j)):=bp.out.trans (if_neg cb);have c6:decide (0<n)=true:=decide_eq_true (by omega);have f2:(n:Int)<=16:=(by omega);clear bp;go_wp2_with fail;try rw[c6]
    refine(cP _ 4 _).mono ?_;rintro e bc ⟨rfl,a8⟩;rw[a8];clear a8 bc;obtain⟨z,b4⟩:∃z,z=l.drop k:=⟨_,rfl⟩;rw[<-b4] at ah b2;have d4:=xX b4;obtain⟨bN,dv⟩:∃bN,bN=Sch.rdCs n [] z:=⟨_,rfl⟩;have cy:=xX (kV (n:=n) b2.out co.out em);rw[<-dv] at ah cy;clear dv b4 b2;go_wp2_with fail;go_loopw [4,18] (fun e3 ck wr=>∃(s:List Col) (q:OA) (c:Nat),ck=.int .i64 s.length∧e3=.slice q s.length c∧s.length<=n∧Hid (js w wr A R w1.1.size n z bN s (.slice q s.length c))) (fun _ ck _=>n-(intOf ck).toNat);case atStart=>exact⟨[],none,0,rfl,rfl,Nat.zero_le _,cy.out⟩
    case round=>
      obtain⟨s,q,c,rfl,rfl,f6,I⟩:=hrel;by_cases ep:s.length<n
      · have fs:(s.length:Int)<(n:Int):=(by omega);obtain⟨E,J,a1⟩:=I.out.left;obtain⟨us,cn,a7⟩:=I.out.built;have d1:=xX a7;have d5:=xX a1;have bj:=xX (vQ (z.drop E) A R wr J);have bq:=xX (vO s (z.drop E))
        -- where the column can't be read
        have b0:Hid (∀L,Sch.rdC s (z.drop E)=.error L->r=.error L):=fun L K=>by
          have ec:bN=.error L:=by
            rw[a1,show n-s.length=(n-s.length-1)+1 by omega,gD,K];rfl
          rw[ah.out,ec];rfl
        obtain⟨eS,b9⟩:∃m,m=gS (z.drop E):=⟨_,rfl⟩;rw[<-b9] at bj bq;have cs:=xX b9;clear J a1 a7 b9;go_wp2_with fail;refine bj.out.mono ?_;intro e bc hh;cases eS with
        |error L=>
          have a6:Hid (r=.error L):=b0.out L bq.out;obtain⟨K,o⟩:=hh.bad;subst K;clear hh;have X:=xX (I.out.aside.trans o (fun _ _ h=>h));clear o bj;go_wp2;rw[a6.out];exact⟨rfl,rfl,X.out⟩
        |ok nj=>
          obtain⟨O,j⟩:=nj;obtain⟨v,K,V,J,o⟩:=hh.good;clear hh
          replace V:v=.string O:=V
          subst V;subst K;have eq:O.size<=140737488351232:=by
            have U:=cs.out.symm;unfold gS at U;split at U
            · cases U
            · next t k2 ht=>
              split at U
              · cases U
              · injection U with U;injection U with U _;have:=(Sch.text_ok ht).1;rw[<-U];omega
          have a5:Hid (Sch.rdC s (z.drop E)=if s.any (fun x=>decide (x.name=O)) then .error 71 else ao (kX O ((z.drop E).drop j)) fun c bb=>.ok (c,j+bb)):=bq.out;have bT:=xX o;have b3:=xX J;have el:=I.out.names.lt;have fx:=I.out.mid;have ct:Hid (cI bc w1.1.size s.length s):=I.out.names.keep (o.block _ el (by omega));have bl:=xX (oW eq);obtain⟨D,aj,b6⟩:=ct.out.out;have bn:=xX aj;have bk:=xX (b6 O);have cx:=xX (fun d t=>pc aj b6 ⟨O,⟨0,[]⟩,false,V0⟩ d t);obtain⟨eU,ds⟩:∃b,b=s.any (fun x=>decide (x.name=O)):=⟨_,rfl⟩;rw[<-ds] at bk a5;have f3:=o.size;clear o J aj b6 bj bq cs ds;cases eU with
          |true=>
            have a6:Hid (r=.error 71):=b0.out 71 (a5.out.trans (if_pos (by first | rfl | trivial)));have X:=xX (I.out.aside.trans bT.out (fun _ _ h=>h));clear a5;go_wp2_with (first | (at_lookup;refine wpList_lookup_own_ok_int _ rfl _ _ 168 rfl 9 3 .i64 qc Tryz.underlying168 Tryz.underlying3 (oG _) w1.1.size s.length D rfl bn.out _ _ rfl bl.out ?_;intro eb b5 ci;rw[bk.out];clear b5 ci));refine(cQ _ 71 _).mono ?_;rintro e Y ⟨rfl,a9⟩;rw[a9];clear a9 Y;go_wp2;rw[a6.out];exact⟨rfl,rfl,X.out⟩
          |false=>
            have bs:Hid (Sch.rdC s (z.drop E)=ao (kX O ((z.drop E).drop j)) fun c bb=>.ok (c,j+bb)):=a5.out.trans (if_neg (by first | decide | simp));clear a5;go_wp2_with (first | (at_lookup;refine wpList_lookup_own_ok_int _ rfl _ _ 168 rfl 9 3 .i64 qc Tryz.underlying168 Tryz.underlying3 (oG _) w1.1.size s.length D rfl bn.out _ _ rfl bl.out ?_;intro eb b5 ci;rw[bk.out];clear b5 ci));refine(cP _ 71 _).mono ?_;rintro e Y ⟨rfl,a9⟩;rw[a9];clear a9 Y
            go_wp2_with (first
              | (at_mapUpdate;refine wpList_mapUpdate_own _ rfl _ _ _ 168 rfl 9 3 qc Tryz.underlying168 _ w1.1.size s.length D rfl bn.out (by unfold maxLen;omega) _ _ _ rfl rfl bl.out _ [] (plainElem_int Tryz.underlying3 (WalkArith.wf_i64 (by omega))) ?_;intro Y dp dd
                 have cv:=xX dp;have Z:=xX dd;clear dp dd))
            have bX:Hid (Aside (fun i=>i=R∨i=w1.1.size) wr Y):=by
              refine(bT.out.mono (fun _ _ h=>.inl h)).trans (G:=fun i=>i=w1.1.size) ⟨Z.out.os,Z.out.tape,Z.out.output,Z.out.size,fun i b7 en=>Z.out.block i b7 (fun a0=>en (by injection a0))⟩ (fun _ _ h=>.inr h)
            have d9:Hid (Rdr Y A R ((z.drop E).drop j)):=b3.out.keep (fun i b7=>Z.out.block i (by have:=b3.out.lt;omega) (fun a0=>by injection a0 with a0;omega)) Z.out.size;have d0:Hid (Aside (fun i=>i=R) w Y):=I.out.aside.trans bX.out (fun i b7 a0=>a0.elim id (fun h=>by omega));have bd:=xX (uO O ((z.drop E).drop j) A R Y d9.out);obtain⟨eL,b8⟩:∃m,m=kX O ((z.drop E).drop j):=⟨_,rfl⟩;rw[<-b8] at bd bs;have cq:=xX b8;clear b8 b3 bT bn bk ct bl Z;go_wp2_with fail;refine bd.out.mono ?_;intro e w4 hh;cases eL with
            |error L=>
              have a6:Hid (r=.error L):=b0.out L bs.out;obtain⟨K,o⟩:=hh.bad;subst K;clear hh;have X:=xX (d0.out.trans o (fun _ _ h=>h));clear o bd;go_wp2;rw[a6.out];exact⟨rfl,rfl,X.out⟩
            |ok cj=>
              obtain⟨ak,bb⟩:=cj;have d7:Hid (Sch.rdC s (z.drop E)=.ok (ak,j+bb)):=bs.out;obtain⟨v,K,V,J,o⟩:=hh.good;obtain⟨u,ew,aj⟩:=V.open;clear hh V;have c8:ak.name=O:=qM cq.out.symm;have d6:Hid (cI Y w1.1.size (s.length+1) (s++[ak])):=by
                refine cI.names (l:=s++[⟨O,⟨0,[]⟩,false,V0⟩]) ⟨_,cv.out,cx.out _⟩ ?_;simp[c8]
              have b1:=xX (fun w5=>I.out.next (w4:=w5) d1.out ep d5.out d7.out bX.out d6.out o aj (by rw[<-List.drop_drop];exact J));have cw:=xX aj;obtain⟨fo,fr,ez,e2,e1,e0,e7,e6,e4,fi,e9,e8,e5,eu,-⟩:=aj.out;subst eu;subst ew;subst K;unfold av at cw b1 ⊢;have f5:=o.size;have f4:=bX.out.size;have er:w1.1.size+1<=w4.1.size+1:=(by omega);clear o J aj bd bs cq cv cx c8
              go_wp2_with (first|(at_builtin;refine lC (B:=w1.1.size+1) (us:=us) (v:=.slice q s.length c) (n:=s.length) (b1.out w4).1 (u:=#[.string ak.name,.int .i64 ez,.slice e2 e1 e0,.bool ak.has,.int .i64 e7,.int .i64 e6,.float .f64 e4,.string fi,.slice e9 e8 e5]) rfl cw.out.one9 (ad:=w4.1.size) (ag w4 _) (by omega) (by simpa using er) (H:=w4.1.size+1) (by simp) rfl rfl rfl rfl ?_;intro c7 c5 w5 dr c9 df;have d3:=xX ((b1.out w5).2 c7 c5 dr c9 (by simpa using df));clear dr c9 df))
              go_roundw;case rel=>
                refine⟨s++[ak],some ⟨c7,0,none⟩,c5,by simp,by simp,by simp;omega,?_⟩;have:=d3.out;rw[List.length_append,List.length_singleton];exact this
              case measure=>simp[intOf];omega
      · have fv:¬(s.length:Int)<(n:Int):=(by omega);have a2:n-s.length=0:=(by omega);obtain⟨E,J,a1⟩:=I.out.left;obtain⟨us,cn,a7⟩:=I.out.built;have ea:Hid (r=.ok (s,k+E)):=by
          show _=_;rw[ah.out,a1,a2];rfl
        have d2:Hid (xz w s (.slice q s.length c) wr):=⟨us,cn,a7.low (by have:=I.out.mid;omega)⟩;have d8:Hid (Rdr wr A R (l.drop (k+E))):=by
          show Rdr _ _ _ _;rw[<-List.drop_drop,<-d4.out];exact J
        have X:=xX I.out.aside;clear J a1 a7 I a2;go_wp2;go_ret;rw[ea.out];exact⟨_,rfl,d2.out,d8.out,X.out⟩
end
section
open Go.RowKit
theorem tm{s:List Col}{k:Nat}(h:gU l=.ok (s,k)):k<=l.length∧s.length<=16:=by
 unfold gU at h;cases h1:bu 16 3 l with
 |error e=>rw[h1] at h;cases h
 |ok nk=>
  obtain⟨n,o⟩:=nk;rw[h1,aQ] at h;split at h
  ·cases h
  ·cases h2:Sch.rdCs n [] (l.drop o) with
   |error e=>rw[h2] at h;cases h
   |ok sj=>
    obtain⟨s',j⟩:=sj;rw[h2,aQ] at h;injection h with h;injection h with hss h;obtain⟨V,I,J,O,⟨U,D⟩,_⟩:=Sch.rdCs_ok n [] (l.drop o) s' j h2;have z:n<=16:=count_le h1;have K:s.length<=16:=(by rw[<-hss,I,List.nil_append,J];exact z);have L:o<=l.length:=by
     unfold bu at h1;split at h1
     ·cases h1
     ·next n' k' hn=>
      split at h1
      ·cases h1
      ·injection h1 with h1;injection h1 with _ h1;have:=(i9 hn).1;omega
    have E:=congrArg List.length D;rw[List.length_drop,List.length_append] at E;exact⟨by omega,K⟩
theorem uj(b:L8):Sch.read b=if 1024<b.length then .error 2 else ao (gU b) fun s k=>if k=b.length then .ok s else .error 5:=by
 unfold Sch.read;split
 ·rfl
 ·unfold gU bu;cases Sch.num b with
  |error e=>rfl
  |ok nk=>
   obtain⟨n,k⟩:=nk;dsimp only;by_cases z:n=0
   ·subst z;rw[if_pos rfl,if_neg (by omega),aQ,if_pos rfl];rfl
   ·rw[if_neg z];by_cases o:16<n
    ·rw[if_pos o,if_pos o];rfl
    ·rw[if_neg o,if_neg o,aQ,if_neg z];cases Sch.rdCs n [] (b.drop k) with
     |error e=>rfl
     |ok lj=>rfl
theorem nc(k:Int)(w:World):(Instr.typeAssert (.iface 29 (.int .i64 k)) 20 29 false).run Tryz.prog w=.ok (.int .i64 k) w:=by kernel_rfl
theorem ik(p q:Addr)(x:Value)(y:Int)(k:Int)(w:World)(I:w.cell? p=some x)(O:w.frozen? p=false)(J:w.cell? q=some (.int .i64 y))(U:w.frozen? q=false)(K:p≠q):
  CallsD Tryz.prog 96 #[.pointer (some p),.pointer (some q)] (.panicking [{ v:=.iface 29 (.int .i64 k),recovered:=false }]) w fun e E w'=>
   e=.returned (.tuple #[])∧E=.panicking [{ v:=.iface 29 (.int .i64 k),recovered:=true }]∧w'=((w.setCell p (.slice none 0 0)).setCell q (.int .i64 k)).drew:=by
 have L:=nc k;refine callsD_of_wpS Tryz.func96 rfl fun z o D=>?_;apply wpS_seq;apply wpS_region;simp[wpOpsS,go_sem,recoverD,D,Tryz.ntmps96,Exit.thenS];refine wpS_of_wp ?_;go_wp2_with fail;go_region_law (fail)
 all_goals
  show bodyPostS Tryz.prog Tryz.f96 z o _ Exit.normal _ _ _;simp[bodyPostS,results,Tryz.results96]
theorem oB(p q:Addr)(w:World):
  CallsD Tryz.prog 96 #[.pointer (some p),.pointer (some q)] .returning w fun e D w'=>e=.returned (.tuple #[])∧D=.returning∧w'=w:=by
 refine callsD_of_wpS Tryz.func96 rfl fun o E z=>?_;apply wpS_seq;apply wpS_region;simp[wpOpsS,go_sem,recoverD,z,Tryz.ntmps96,Exit.thenS];refine wpS_of_wp ?_;go_wp2_with fail;cases o
 simp_all [bodyPostS,results,Tryz.results96]
theorem bo{P:Program}{fn:Func}{p q:Tmp}{D E:TypeId}(h:fn.results=#[.cell p D,.cell q E])(tmps:AV)(w:World)(g z:Nat)(t:TypeId)(o:AV)(I:Nat×Nat)(d:TypeDesc)(x:Int)(V:tmps.getD p undef=.pointer (some ⟨g,0,none⟩))(L:w.1[g]?=some (.cells o t I))(ah:P.underlying D=some d)(hd:(match d with | .struct _ | .array _ _=>true | _=>false)=true)(U:(P.info? D).map (·.size)=some o.size)(Y:tmps.getD q undef=.pointer (some ⟨z,0,none⟩))(O:w.cell? ⟨z,0,none⟩=some (.int .i64 x))(aj:P.underlying E=some (.int .i64)):
  (results fn tmps).run P w=.ok (.tuple #[.agg o,.int .i64 x]) w:=by
 have X:tmps[p]?.getD undef=.pointer (some ⟨g,0,none⟩):=by simpa using V
 have Z:tmps[q]?.getD undef=.pointer (some ⟨z,0,none⟩):=by simpa using Y
 have J:=run_loadVar_row w g t D o I d L ah hd U;have K:(loadVar E ⟨z,0,none⟩).run P w=.ok (.int .i64 x) w:=by
  simp[go_sem,isAgg,run_underlying aj,O]
 simp[results,h,X,Z,asAddr,J,K]
structure dw(w W:World)(x:Value)(y:Int):Prop where
 b0:W.1[w.1.size]?=some (.cells #[x] 41 (0,0))
 b1:W.1[w.1.size+1]?=some (.cells #[.int .i64 y] 29 (0,0))
 size:w.1.size+3<=W.1.size
 below:Below w.1.size w W
theorem gT{p:OA}{c:Nat}(z:At w p l)(E:l.length<=c)(D:l.length<=1024):dw w (((w.alloc (.cells #[.slice none 0 0] 41)).alloc (.cells #[.int .i64 0] 29)).alloc (.cells #[.slice p l.length c] 146)) (.slice none 0 0) 0∧Rdr (((w.alloc (.cells #[.slice none 0 0] 41)).alloc (.cells #[.int .i64 0] 29)).alloc (.cells #[.slice p l.length c] 146)) w.1.size (w.1.size+1+1) l:=by
 have hb:Below w.1.size w (((w.alloc (.cells #[.slice none 0 0] 41)).alloc (.cells #[.int .i64 0] 29)).alloc (.cells #[.slice p l.length c] 146)):=(xV.alloc (by simp) _).alloc (by simp;omega) _;refine⟨⟨?_,?_,by simp,hb⟩,⟨⟨p,c,?_,z.on hb,E,fun I a o=>?_⟩,D,by omega⟩⟩
 ·rw[aG _ _ (by simp;omega),aG _ _ (by simp)];exact ag w _
 ·rw[aG _ _ (by simp)];have:=ag (w.alloc (.cells #[.slice none 0 0] 41)) (.cells #[.int .i64 0] 29);simpa using this
 ·have:=ag ((w.alloc (.cells #[.slice none 0 0] 41)).alloc (.cells #[.int .i64 0] 29)) (.cells #[.slice p l.length c] 146);simpa using this
 ·obtain⟨b,K,J,hb,_⟩:=aL z (List.length_pos_iff.2 I);rw[J] at o;injection o with o;subst o;exact hb
theorem dw.step{z:World}(h:dw w W x y)(o:Aside (fun i=>i=w.1.size+1+1) W z):dw w z x y:=by
 have D:=h.size;exact⟨by rw[o.block _ (by omega) (by omega)];exact h.b0,by rw[o.block _ (by omega) (by omega)];exact h.b1,Nat.le_trans D o.size,h.below.trans (o.below (by omega) (fun k E=>by omega))⟩
theorem dw.setS(h:dw w W x y)(z:Value):dw w (W.setCell ⟨w.1.size,0,none⟩ z) z y:=by
 have D:=h.size;have o:Aside (fun i=>i=w.1.size) W (W.setCell ⟨w.1.size,0,none⟩ z):=ai _ _ _ _;exact⟨by rw[an h.b0 0];rfl,by rw[o.block _ (by omega) (by omega)];exact h.b1,Nat.le_trans D o.size,h.below.trans (o.below (by omega) (fun k E=>by omega))⟩
theorem dw.setE(h:dw w W x y)(z:Int):dw w (W.setCell ⟨w.1.size+1,0,none⟩ (.int .i64 z)) x z:=by
 have D:=h.size;have o:Aside (fun i=>i=w.1.size+1) W (W.setCell ⟨w.1.size+1,0,none⟩ (.int .i64 z)):=ai _ _ _ _;exact⟨by rw[o.block _ (by omega) (by omega)];exact h.b0,by rw[an h.b1 0];rfl,Nat.le_trans D o.size,h.below.trans (o.below (by omega) (fun k E=>by omega))⟩
theorem dw.drew(h:dw w W x y):dw w W.drew x y:=⟨h.b0,h.b1,h.size,h.below.drew⟩
theorem pg(p:OA)(l:L8)(c:Nat)(cy:l.length<=140737488351232)(bs:l.length<=c)(w:World)(U:At w p l):
  Calls Tryz.prog 71 #[.slice p l.length c] w (wT w (Sch.read l)):=by
 have c5:∀(fn:Fn) (first cap:AV) (w:World),(Instr.makeFunc fn first cap).run Tryz.prog w=.ok (.func fn first cap) w:=fun _ _ _ _=>rfl;obtain⟨r,bc⟩:∃r,r=Sch.read l:=⟨_,rfl⟩;have Z:=xX (bc.trans (uj l));rw[<-bc];clear bc;have cv:=xX U;by_cases a2:1024<l.length
 ·have b3:(1024:Int)<(l.length:Int):=by omega
  have D:Hid (r=.error 2):=Z.out.trans (if_pos a2);clear Z U a2
  go_enter_defers Tryz.func71,Tryz.ntmps71
  have bX:Hid (∀o,(w.alloc (.cells #[.slice none 0 0] 41)).1[w.1.size]?=some (.cells #[.slice none 0 0] 41 (0,0))∧((w.alloc (.cells #[.slice none 0 0] 41)).alloc o).1[w.1.size]?=some (.cells #[.slice none 0 0] 41 (0,0))∧Below w.1.size w ((w.alloc (.cells #[.slice none 0 0] 41)).alloc o)):=fun o=>⟨ag w _,by rw[aG _ _ (by simp)];exact ag w _,xV.alloc (by simp) _⟩;go_wp2;obtain⟨-,cn,co⟩:=bX.out (.cells #[.int .i64 2] 29);refine⟨_,bo rfl _ _ w.1.size (w.1.size+1) _ #[.slice none 0 0] _ _ 2 rfl cn Tryz.underlying41 rfl (by kernel_rfl) rfl (by simp) Tryz.underlying29,?_⟩;rw[D.out];exact⟨rfl,co⟩
 have b3:¬(1024:Int)<(l.length:Int):=by omega
 have ah:Hid (r=ao (gU l) fun s k=>if k=l.length then .ok s else .error 5):=Z.out.trans (if_neg a2);obtain⟨W,a1⟩:∃W,W=((w.alloc (.cells #[.slice none 0 0] 41)).alloc (.cells #[.int .i64 0] 29)).alloc (.cells #[.slice p l.length c] 146):=⟨_,rfl⟩;have a5:Hid (dw w W (.slice none 0 0) 0):=by rw[a1];exact(gT U bs (by omega)).1
 have b2:Hid (Rdr W w.1.size (w.1.size+1+1) l):=by rw[a1];exact(gT U bs (by omega)).2
 have a7:=xX a1;have Y:=xX (tl l w.1.size (w.1.size+1+1) W b2.out)
 -- a panic that goes through the door
 have bl:Hid (∀(er:Nat) (ak:World) (x:Value) (y:Int),r=.error er->dw w ak x y->∀(tmps:AV) (a8:List Deferred),tmps.getD 2 undef=.pointer (some ⟨w.1.size,0,none⟩)->tmps.getD 3 undef=.pointer (some ⟨w.1.size+1,0,none⟩)->a8=[{ target:=.fn (.func 96) #[.pointer (some ⟨w.1.size,0,none⟩),.pointer (some ⟨w.1.size+1,0,none⟩)],args:=#[] }]->bodyPostD Tryz.prog Tryz.f71 (wT w r) (Exit.panic (ei er)) { tmps:=tmps,defers:=a8 } ak):=by
  intro er ak x y K hI tmps a8 b4 b5 ci;subst ci;refine leaves_cons (f:=96) (args:=#[.pointer (some ⟨w.1.size,0,none⟩),.pointer (some ⟨w.1.size+1,0,none⟩)]) (by simp) (by simp[go_sem]) ?_;refine(ik ⟨w.1.size,0,none⟩ ⟨w.1.size+1,0,none⟩ x y er ak (aa hI.b0 0) (ab hI.b0 0) (aa hI.b1 0) (ab hI.b1 0) (by intro cb;injection cb;omega)).mono ?_;rintro e cs ct ⟨rfl,rfl,rfl⟩;have J:=((hI.setS (.slice none 0 0)).setE er).drew;refine⟨_,bo rfl tmps _ w.1.size (w.1.size+1) _ #[.slice none 0 0] _ _ (er:Int) b4 J.b0 Tryz.underlying41 rfl (by kernel_rfl) b5 (aa J.b1 0) Tryz.underlying29,?_⟩;rw[K];exact⟨rfl,J.below⟩
 obtain⟨m,bb⟩:∃m,m=gU l:=⟨_,rfl⟩;rw[<-bb] at ah Y;have bn:=xX bb;clear Z a1 bb U a2;cases m with
 |error er=>
  have D:Hid (r=.error er):=ah.out
  go_enter_defers Tryz.func71,Tryz.ntmps71
  go_wp2_with fail;rw[<-a7.out];refine Y.out.mono ?_;intro e w1 V;obtain⟨K,O⟩:=V.bad;subst K;have z:=xX (a5.out.step O);clear V O;go_wp2;exact bl.out er w1 _ _ D.out z.out _ _ rfl rfl rfl
 |ok sk=>
  obtain⟨s,k⟩:=sk;obtain⟨bq,c6⟩:=tm bn.out.symm;have D:Hid (r=if k=l.length then .ok s else .error 5):=ah.out
  go_enter_defers Tryz.func71,Tryz.ntmps71
  go_wp2_with fail;rw[<-a7.out];refine Y.out.mono ?_;intro e w1 V;obtain⟨v,K,bN,bd,O⟩:=V.good;subst K;have z:=xX (a5.out.step O);have bk:=xX bN;have cw:=xX bd;obtain⟨cp,c1,bp,b9,cc,-⟩:=bd.out;have c7:=a5.out.size;have dd:w1.cell? ⟨w.1.size,0,none⟩=some (.slice none 0 0):=aa z.out.b0 0;have df:=ab z.out.b0 0;have c8:w1.cell? ⟨w.1.size+1,0,none⟩=some (.int .i64 0):=aa z.out.b1 0;have c9:=ab z.out.b1 0;have cq:w1.cell? ⟨w.1.size+1+1,0,none⟩=some (.slice cp (l.drop k).length c1):=aa bp 0;clear V bN bd O bp b9 cc Y a7 bn ah;obtain⟨us,bO,a9⟩:=bk.out;obtain⟨I,E,rfl,-,-⟩:=a9.cols (by omega);have a4:=xX a9;obtain⟨L,a0⟩:∃L,L=(l.drop k).length:=⟨_,rfl⟩;rw[<-a0] at cq;rw[List.length_drop] at a0;clear a9 bk;by_cases a3:k=l.length
  ·have a6:Hid (r=.ok s):=D.out.trans (if_pos a3);have b8:L=0:=(by omega);subst b8;clear D a0 a3;go_wp2_with fail;refine(cP _ 5 _).mono ?_;rintro e bj ⟨rfl,X⟩;rw[X];clear X bj;go_wp2;refine leaves_cons (f:=96) (args:=#[.pointer (some ⟨w.1.size,0,none⟩),.pointer (some ⟨w.1.size+1,0,none⟩)]) (by simp) (by simp[go_sem]) ?_;refine(oB ⟨w.1.size,0,none⟩ ⟨w.1.size+1,0,none⟩ _).mono ?_;rintro e cs ct ⟨rfl,rfl,rfl⟩;have J:=((z.out.setS (.slice I s.length E)).setS (.slice I s.length E)).setE 0
   have b6:Aside (fun i=>i=w.1.size∨i=w.1.size+1) w1 (((w1.setCell ⟨w.1.size,0,none⟩ (.slice I s.length E)).setCell ⟨w.1.size,0,none⟩ (.slice I s.length E)).setCell ⟨w.1.size+1,0,none⟩ (.int .i64 0)) :=
    (((ai w1 w.1.size 0 (.slice I s.length E)).mono (fun _ _ h=>.inl h)).trans (ai _ w.1.size 0 (.slice I s.length E)) (fun _ _ h=>.inl h)).trans (ai _ (w.1.size+1) 0 (.int .i64 0)) (fun _ _ h=>.inr h)
   have b7:=(a4.out.aside b6 (fun g cj K=>by have:=(a4.out.lt g cj).1;omega) (fun j ck k bq K=>by have:=(a4.out.range j ck k bq).1;omega)).low (B':=w.1.size) (by omega);refine⟨_,bo rfl _ _ w.1.size (w.1.size+1) _ #[.slice I s.length E] _ _ 0 rfl J.b0 Tryz.underlying41 rfl (by kernel_rfl) rfl (aa J.b1 0) Tryz.underlying29,?_⟩;rw[a6.out];exact⟨_,rfl,⟨_,us,bO,rfl,b7,by omega⟩,J.below⟩
  ·have a6:Hid (r=.error 5):=D.out.trans (if_neg a3);have cx:((L:Int)==0)=false:=aK (by omega);have bT:=xX (z.out.setS (.slice I s.length E));clear D a3 a0;go_wp2_with fail;refine(cQ _ 5 _).mono ?_;rintro e bj ⟨rfl,X⟩;rw[X];clear X bj;go_wp2;exact bl.out 5 _ _ _ a6.out bT.out _ _ rfl rfl rfl
end
end Go.Proofs.YtdkammppnkhhoaaGreatDoor
