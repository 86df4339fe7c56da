import Derived.Test.YtbahfgdbjgkklaaGreatDoorB42
set_option maxRecDepth 100000
set_option maxHeartbeats 16000000
namespace Go.Proofs.YtbahfgdbjgkklaaGreatDoor
variable{B:Nat}{w w':World}{u:AV}{f:Fr}
section
open Go.RowKit
theorem aI{g:Nat}{o:Obj}(h:w.1[g]?=some o):g<w.1.size:=(Array.getElem?_eq_some_iff.1 h).1
theorem gw{s:List Col}{G:Nat->Prop}(h:fv w B u s)(I:Aside G w w')(o:∀k,B<=k->k<w.1.size->¬G k):fv w' B u s:=by
 obtain⟨v,us,E,rfl,hb,J⟩:=h.out;exact⟨v,us,E,rfl,hb.aside I (fun g y=>o g (hb.lt g y).1 (hb.lt g y).2) (fun j z k D=>o k (hb.range j z k D).1 (hb.range j z k D).2),J⟩
theorem iN.aside{G:Nat->Prop}(h:iN w B u f)(E:Aside G w w')(D:∀k,B<=k->k<w.1.size->¬G k):iN w' B u f:=by
 obtain⟨sp,U,J,I,L,K,M,O,y,Q,z,S⟩:=h.out;exact⟨sp,U,J,I,L,K,M,gw O E D,y.aside E (fun k o=>D k (y.lt k o).1 (y.lt k o).2),Q,z.aside E (fun k o=>D k (z.lt k o).1 (z.lt k o).2),S⟩
theorem iN.low{B':Nat}(h:iN w B u f)(o:B'<=B):iN w B' u f:=by
 obtain⟨sp,Q,z,y,E,D,I,J,K,L,M,O⟩:=h.out;exact⟨sp,Q,z,y,E,D,I,jL J o,K.low o,L,M.low o,O⟩
theorem qT(o:Nat)(l:L8):Fr.nbs [o] l=match Fr.nb o l with | .error e=>.error e | .ok (n,k)=>.ok ([n],k):=by
 unfold Fr.nbs;cases Fr.nb o l with
 |error e=>rfl
 |ok r=>rfl
theorem qV(o y z D:UInt8)(S:Nat):[o,y,z,D]=Sch.le 4 S↔∀j (_:j<4),([o,y,z,D]:L8)[j].toNat=S / 256 ^ j % 256:=by
 have e:Sch.le 4 S=[UInt8.ofNat (S % 256),UInt8.ofNat (S / 256 % 256),UInt8.ofNat (S / 256 / 256 % 256),UInt8.ofNat (S / 256 / 256 / 256 % 256)]:=rfl;rw[e];constructor
 ·intro h j L;simp only[List.cons.injEq,and_true] at h;obtain⟨rfl,rfl,rfl,rfl⟩:=h;match j,L with
  |0,_=>simp
  |1,_=>simp
  |2,_=>simp[Nat.div_div_eq_div_mul]
  |3,_=>simp[Nat.div_div_eq_div_mul]
 ·intro h;have E:=h 0 (by omega);have I:=h 1 (by omega);have J:=h 2 (by omega);have K:=h 3 (by omega);simp only[List.getElem_cons_zero,List.getElem_cons_succ] at E I J K;simp only[List.cons.injEq,and_true];refine⟨UInt8.toNat_inj.1 ?_,UInt8.toNat_inj.1 ?_,UInt8.toNat_inj.1 ?_,UInt8.toNat_inj.1 ?_⟩
  ·rw[E];simp
  ·rw[I];simp
  ·rw[J];simp[Nat.div_div_eq_div_mul]
  ·rw[K];simp[Nat.div_div_eq_div_mul]
theorem wR{l C:L8}{o y z D:UInt8}(K:l.length<=2200)(I:Cob.un l=(0,C++[o,y,z,D]))(J:1<=C.length):Fr.open_ l=if [o,y,z,D]=Sch.le 4 (Crc.sum C) then .ok C else .error 120:=by
 unfold Fr.open_;have E:(C++[o,y,z,D]).length-4=C.length:=by simp
 rw[if_neg (by omega),I];simp only[ne_eq,not_true_eq_false,if_false];rw[if_neg (by simp;omega),E,List.drop_left,List.take_left]
theorem pL(p:OA)(c:Nat)(l:L8)(g5:l.length<=2200)(C:L8)(b6 b7 b8 b9:UInt8)(cp:Cob.un l=(0,C++[b6,b7,b8,b9]))(c6:1<=C.length)(gu:C.length<=2200)(w:World)(h:At w p l):
    Calls Tryz.prog 22 #[.slice p l.length c] w (lg w (Fr.dec l)):=by
  obtain⟨w0,db⟩:∃w0,w0=w.alloc (.cells #[.int .i64 0,.int .i64 0,.slice none 0 0,.int .i64 0,.int .i64 0,.int .i64 0,.slice none 0 0,.int .i64 0,.int .i64 0,.int .i64 0,.slice none 0 0] 67):=⟨_,rfl⟩;have hy:w0.1.size=w.1.size+1:=by rw[db];simp
  have d3:Hid (Below w.1.size w w0):=by rw[db];exact gQy
  have fg:w0.1[w.1.size]?=some (.cells #[.int .i64 0,.int .i64 0,.slice none 0 0,.int .i64 0,.int .i64 0,.int .i64 0,.slice none 0 0,.int .i64 0,.int .i64 0,.int .i64 0,.slice none 0 0] 67 (0,0)):=by rw[db];exact am w _
  have fa:Hid (w.alloc (.cells #[.int .i64 0,.int .i64 0,.slice none 0 0,.int .i64 0,.int .i64 0,.int .i64 0,.slice none 0 0,.int .i64 0,.int .i64 0,.int .i64 0,.slice none 0 0] 67)=w0):=by rw[db];exact rfl
  have dn:=gQq (fE p c l (by omega) w0 (h.on d3.out));rw[cp] at dn;simp only at dn;have hv:¬(2200:Int)<(l.length:Int):=by omega
  obtain⟨R,ds⟩:∃R,R=Fr.dec l:=⟨_,rfl⟩;rw[<-ds];have d6:=gQq (wR g5 cp c6);have dk:=gQq ds;have e8:=gQq ds;clear db h ds cp;go_enter Tryz.func22,Tryz.ntmps22;go_wp2_with fail;rw[fa.out];refine dn.out.mono ?_;rintro e w1 ⟨v,rfl,da,ef⟩;obtain⟨q,cap,rfl,ff,g0⟩:=da.at;obtain⟨E,I,rfl,gN,ct⟩:=aC ff (by simp);have eh:∀j (cb:j<C.length),w1.cell? ⟨E,I+j,none⟩=some (.int .u8 (C[j].toNat:Int)):=fun j cb=>by
    rw[ct j (by simp;omega),List.getElem_append_left cb]
  have fc:w1.cell? ⟨E,I+C.length,none⟩=some (.int .u8 (b6.toNat:Int)):=by have:=ct C.length (by simp);simpa using this
  have ab:w1.cell? ⟨E,I+(C.length+1),none⟩=some (.int .u8 (b7.toNat:Int)):=by have:=ct (C.length+1) (by simp);simpa using this
  have ah:w1.cell? ⟨E,I+(C.length+2),none⟩=some (.int .u8 (b8.toNat:Int)):=by have:=ct (C.length+2) (by simp);simpa using this
  have fe:w1.cell? ⟨E,I+(C.length+3),none⟩=some (.int .u8 (b9.toNat:Int)):=by have:=ct (C.length+3) (by simp);simpa using this
  have ce:Hid (At w1 (some ⟨E,I,none⟩) C):=.inr ⟨E,I,rfl,gN,eh⟩;have b1:=gQq (d3.out.trans (ef.mono d3.out.size));have eb:=(ef.block _ (by omega)).trans fg;have Y:=gQq eb;obtain⟨⟨bk,a4⟩,⟨bn,a5⟩,⟨bq,a7⟩,⟨br,a8⟩,⟨bs,a9⟩,⟨bN,bb⟩,⟨bO,bc⟩,⟨bT,be⟩,⟨bX,bi⟩,⟨b0,bj⟩,⟨bp,a6⟩⟩:=dx eb;have e9:=gQq (pE (some ⟨E,I,none⟩) cap C (by omega) w1 ce.out);have fy:(C++[b6,b7,b8,b9]).length=C.length+4:=by simp
  rw[fy] at g0 ⊢;have hu:¬((C.length:Int)+4<5):=by omega
  clear da ff ct ef fg eb dn fa fy;go_wp2_with fail;refine e9.out.mono ?_;rintro e L ⟨rfl,f3⟩;rw[f3];clear f3 L e9;have d8:Hid (Crc.sum C<4294967296):=Crc.update_lt (by omega) C;obtain⟨S,ed⟩:∃S,S=Crc.sum C:=⟨_,rfl⟩;rw[<-ed] at d8 ⊢;have d7:=gQq ed;clear ed;have fs:∀i (em:i<4),w1.cell? ⟨E,I+(C.length+i),none⟩=some (.int .u8 (([b6,b7,b8,b9]:L8)[i].toNat:Int)):=fun i em=>by
    match i,em with
    |0,_=>exact fc
    |1,_=>exact ab
    |2,_=>exact ah
    |3,_=>exact fe
  have e4:=gQq fs;clear fc ab ah fe fs;go_wp2;go_loopw [7,8] (fun hi e3 wr=>∃i s:Nat,i<=4∧e3=.int .i64 i∧hi=.int .u32 s∧s<4294967296∧wr=w1∧Hid (s=S / 256 ^ i∧∀j (cb:j<4),j<i->([b6,b7,b8,b9]:L8)[j].toNat=S / 256 ^ j % 256)) (fun _ e3 _=>4-(intOf e3).toNat);case atStart=>exact⟨0,S,by omega,rfl,rfl,d8.out,rfl,by simp,fun j _ cb=>by omega⟩
  case round=>
    obtain⟨i,s,em,rfl,rfl,hw,rfl,cf⟩:=hrel;by_cases f0:i<4
    · have ht:(i:Int)<4:=(by omega);have fx:=e4.out i f0;obtain⟨cw,c9⟩:∃cw,cw=([b6,b7,b8,b9]:L8)[i]:=⟨_,rfl⟩;rw[<-c9] at fx;by_cases dv:cw.toNat=s % 256
      · have hb:((cw.toNat:Int) != (s:Int) % 256)=false:=(by rw[dv];simp);rw[dv] at fx;have e6:Hid (s / 256=S / 256 ^ (i+1)∧∀j (cb:j<4),j<i+1->([b6,b7,b8,b9]:L8)[j].toNat=S / 256 ^ j % 256):=by
          refine⟨?_,fun j cb hr=>?_⟩
          · rw[cf.out.1,Nat.div_div_eq_div_mul,Nat.pow_succ]
          · by_cases g4:j=i
            · subst g4;rw[<-c9,dv,cf.out.1]
            · exact cf.out.2 j cb (by omega)
        clear cf c9;go_wp2;go_roundw;case rel=>exact⟨i+1,s / 256,by omega,by go_num,by go_num,by omega,trivial,e6.out⟩
        case measure=>simp[intOf];omega
      · have hb:((cw.toNat:Int) != (s:Int) % 256)=true:=(by rw[bne_iff_ne];omega);have D:Hid (R=.error 120):=by
          show _=_;rw[dk.out,Fr.dec,d6.out,<-d7.out,if_neg];intro cs;exact dv (by rw[c9,(qV b6 b7 b8 b9 S).1 cs i f0,cf.out.1])
        have ci:=b1.out.size;clear cf c9 dk;go_wp2;refine bodyPost_ret (aw rfl _ _ w.1.size _ _ _ _ rfl (az Y.out _ _ _ _ _ _ _ _ _ _ _) Tryz.underlying67 rfl (by kernel_rfl)) rfl ?_;rw[D.out];exact⟨rfl,b1.out.trans ((aA wr w.1.size _ _ _ _ _ _ _ _ _ _ _).below ci (fun k U=>by omega))⟩
    · have g3:i=4:=(by omega);subst g3;have b2:Hid (R=Fr.rdF (C.headD 0).toNat C.tail):=by
        show _=_;rw[dk.out,Fr.dec,d6.out,<-d7.out,if_pos ((qV b6 b7 b8 b9 S).2 (fun j cb=>cf.out.2 j cb (by omega)))]
      have ci:=b1.out.size;have c0:=eh 0 (by omega);obtain⟨df,en⟩:∃df,df=C[0]'(by omega):=⟨_,rfl⟩;rw[<-en] at c0;have ab:C.headD 0=df:=(by rw[en];cases C with | nil=>simp at c6 | cons a b=>rfl);have ah:C.tail=C.drop 1:=(by simp);rw[ab,ah] at b2;rw[Nat.add_zero] at c0;obtain⟨cd,ep⟩:∃cd,cd=df.toNat:=⟨_,rfl⟩;have hs:cd<256:=(by rw[ep];exact df.toNat_lt);rw[<-ep] at b2 c0;clear en ab ah ep;clear cf d6 d7 d8 dk eh e4;by_cases cy:cd=1
      · have c1:wr.cell? ⟨E,I,none⟩=some (.int .u8 1):=(by rw[c0,cy];rfl);have D:Hid (R=Fr.rdS (C.drop 1)):=by
          show _=_;rw[b2.out,Fr.rdF,if_pos cy]
        obtain⟨ak,cc⟩:∃ak,ak=wr.alloc (.cells #[.int .i64 2147483648] 2):=⟨_,rfl⟩;have a3:Below wr.1.size wr ak:=(by rw[cc];exact gQy);have d9:Hid (wr.alloc (.cells #[.int .i64 2147483648] 2)=ak):=(by rw[cc];exact rfl);have c7:Ints ak wr.1.size (toI [2147483648]):=(by rw[cc];exact gX rfl rfl);have b4:=gQq (jq (some ⟨E,I,none⟩) cap C (by omega) 1 wr.1.size c6 [2147483648] (by simp) (by simp) ak (ce.out.on a3) c7);rw[qT] at b4;have c8:=(a3.block _ (aI Y.out)).trans Y.out;have Z:=gQq c8;have b3:=gQq (b1.out.trans (a3.mono ci));have cu:=gQq (ce.out.on a3);have dd:=b3.out.size;have gL:=aI Z.out;clear c0 b2 bk bn bq br bs bN bO bT bX b0 bp a4 a5 a7 a8 a9 bb bc be bi bj a6 cc a3 c7 c8 b1 Y ce;go_wp2_with fail;rw[d9.out];refine b4.out.mono ?_;rintro e L d1;cases hnb:Fr.nb 2147483648 (C.drop 1) with
        |error cx=>
          rw[hnb] at d1;rcases d1 with ⟨gp,M,rfl,o⟩ | ⟨d2,k,q,fb,M,rfl,cn,o⟩
          · have K:Hid (R=.error 5):=by
              show _=_;rw[D.out,Fr.rdS,hnb,<-uA hnb]
            have y:=(o.block _ (aI Z.out)).trans Z.out;have z:=gQq y;have J:=gQq (b3.out.trans (o.mono dd));have O:=J.out.size;obtain⟨⟨bk,a4⟩,⟨bn,a5⟩,⟨bq,a7⟩,⟨br,a8⟩,⟨bs,a9⟩,⟨bN,bb⟩,⟨bO,bc⟩,⟨bT,be⟩,⟨bX,bi⟩,⟨b0,bj⟩,⟨bp,a6⟩⟩:=dx y;clear o y b4 D hnb M;go_wp2;refine bodyPost_ret (aw rfl _ _ w.1.size _ _ _ _ rfl (az z.out _ _ _ _ _ _ _ _ _ _ _) Tryz.underlying67 rfl (by kernel_rfl)) rfl ?_;rw[K.out];exact⟨rfl,J.out.trans ((aA L w.1.size _ _ _ _ _ _ _ _ _ _ _).below O (fun k U=>by omega))⟩
          · cases M
        |ok nk=>
          obtain⟨n,k⟩:=nk;rw[hnb] at d1;rcases d1 with ⟨gp,M,rfl,o⟩ | ⟨d2,k',q,fb,M,rfl,cn,o⟩
          · cases M
          · simp only[Except.ok.injEq,Prod.mk.injEq] at M;obtain⟨rfl,rfl⟩:=M;have er:1+k<=C.length:=by
              have g7:Fr.nbs [2147483648] (C.drop 1)=.ok ([n],k):=(by rw[qT,hnb]);obtain⟨-,-,r,ab,ah⟩:=Fr.nbs_ok _ _ _ _ g7;have:=congrArg List.length ab;rw[List.length_append,List.length_drop,<-ah] at this;omega
            have y:=(o.block _ (aI Z.out)).trans Z.out;have z:=gQq y;have J:=gQq (b3.out.trans (o.mono dd));have O:=J.out.size;obtain⟨hh,gl,e1,-,e0⟩:=cn.ints;rcases e0 with ew | ⟨g,el,gt,a0⟩
            · simp[toI] at ew
            injection e1 with hq1 hq2 hq3;subst hq1;subst el;have de:L.cell? ⟨g,0,none⟩=some (.int .i64 (n:Nat)):=a0.2 0 (by simp[toI]);have cr:=cu.out.on o;have e6:=gQq a0;have K:Hid (R=match Sch.read (C.drop (1+k)) with | .error e=>.error e | .ok s=>.ok { Fr0 with kind:=1,number:=n,cols:=s }):=by
              show _=_;rw[D.out,Fr.rdS,hnb];simp only;rw[List.drop_drop];cases Sch.read (List.drop (1+k) C) <;> rfl
            clear o b4 cu Z b3 cn hq2 hq3 hnb D;obtain⟨A,c5⟩:∃A,A=1+k:=⟨_,rfl⟩;rw[<-c5] at er K ⊢;clear c5;have dh:Hid (At L (some ⟨E,I+A,none⟩) (C.drop A)):=by
              obtain⟨gg,hg,co,ee,eg⟩:=aC cr (by omega);injection co with co;injection co with ab ah _;subst ab ah;exact .inr ⟨E,I+A,rfl,ee,cF eg A⟩
            have di:=gQq (pK (some ⟨E,I+A,none⟩) (C.drop A) (cap-A) (by rw[List.length_drop];omega) (by rw[List.length_drop];omega) L dh.out);rw[List.length_drop] at di;have g8:¬cap=A:=(by omega);have gs:(A:Int)<=(C.length:Int):=(by omega);have ck:=gQq a0.1;clear cr dh a0 y;go_wp2_with fail;refine di.out.mono ?_;rintro e V hd;cases hrd:Sch.read (C.drop A) with
            |error cx=>
              rw[hrd] at hd K;obtain⟨rfl,Q⟩:=hd;have hq:((cx:Int) != 0)=true:=by
                rw[bne_iff_ne];have:=Sch.read_ne hrd;omega
              have ca:Below V.1.size V (V.alloc (.cells #[.slice none 0 0] 29)):=gQy;have a1:=(ca.block _ (aI ((Q.block _ (aI z.out)).trans z.out))).trans ((Q.block _ (aI z.out)).trans z.out);have cv:=gQq a1;have X:=gQq (J.out.trans ((Q.mono O).trans (ca.mono (Nat.le_trans O Q.size))));have dc:=X.out.size;obtain⟨⟨bk,a4⟩,⟨bn,a5⟩,⟨bq,a7⟩,⟨br,a8⟩,⟨bs,a9⟩,⟨bN,bb⟩,⟨bO,bc⟩,⟨bT,be⟩,⟨bX,bi⟩,⟨b0,bj⟩,⟨bp,a6⟩⟩:=dx a1;clear Q ca a1 di hrd;go_wp2;refine bodyPost_ret (aw rfl _ _ w.1.size _ _ _ _ rfl (az cv.out _ _ _ _ _ _ _ _ _ _ _) Tryz.underlying67 rfl (by kernel_rfl)) rfl ?_;rw[K.out];exact⟨rfl,X.out.trans ((aA _ w.1.size _ _ _ _ _ _ _ _ _ _ _).below dc (fun k U=>by omega))⟩
            |ok sl=>
              rw[hrd] at hd K;obtain⟨u,rfl,eC,Q⟩:=hd;obtain⟨v,us,hj,cp,fi,g6⟩:=eC.out;subst cp;obtain⟨sp,aj,ha,hx,-⟩:=fi.cols g6;subst ha;have ca:Below V.1.size V (V.alloc (.cells #[.slice sp sl.length aj] 29)):=gQy;have a1:=(ca.block _ (aI ((Q.block _ (aI z.out)).trans z.out))).trans ((Q.block _ (aI z.out)).trans z.out);have cv:=gQq a1;have X:=gQq (J.out.trans ((Q.mono O).trans (ca.mono (Nat.le_trans O Q.size))));have dc:=X.out.size;obtain⟨⟨bk,a4⟩,⟨bn,a5⟩,⟨bq,a7⟩,⟨br,a8⟩,⟨bs,a9⟩,⟨bN,bb⟩,⟨bO,bc⟩,⟨bT,be⟩,⟨bX,bi⟩,⟨b0,bj⟩,⟨bp,a6⟩⟩:=dx a1;have he:(V.alloc (.cells #[.slice sp sl.length aj] 29)).cell? ⟨g,0,none⟩=some (.int .i64 (n:Nat)):=by
                rw[ca.cell (p:=⟨g,0,none⟩) (Nat.lt_of_lt_of_le ck.out Q.size),Q.cell (p:=⟨g,0,none⟩) ck.out];exact de
              have gd:=gQq (gw eC (al ca (fun _=>False)) (fun _ _ _ cs=>cs));have hn:¬V.1.size=w.1.size:=(by have:=Q.size;have:=aI z.out;omega);have hz:=Q.size;have dj:=gQq (aI z.out);clear Q ca a1 di hrd eC fi de;have g2:¬w.1.size=g:=(by omega);have ho:¬w.1.size=V.1.size:=(by omega);have hf:(V.alloc (.cells #[.slice sp sl.length aj] 29)).cell? ⟨V.1.size,0,none⟩=some (.slice sp sl.length aj):=(by rw[World.cell?_alloc_new];rfl);go_wp2_with fail;go_region_held3 (fun w'=>w'.cell? ⟨g,0,none⟩=some (.int .i64 (n:Nat))∧w'.cell? ⟨V.1.size,0,none⟩=some (.slice sp sl.length aj)) (go_keep) (fail);go_wp2;obtain⟨b5,a2⟩:∃b5,b5=(lo (V.alloc (.cells #[.slice sp sl.length aj] 29)) w.1.size (.int .i64 1) (.int .i64 (n:Nat)) (.slice sp sl.length aj) (.int .i64 0) (.int .i64 0) (.int .i64 0) (.slice none 0 0) (.int .i64 0) (.int .i64 0) (.int .i64 0) (.slice none 0 0)).drew:=⟨_,rfl⟩;have cg:Aside (fun i=>i=w.1.size) (V.alloc (.cells #[.slice sp sl.length aj] 29)) b5:=by rw[a2];exact(aA _ w.1.size (.int .i64 1) (.int .i64 (n:Nat)) (.slice sp sl.length aj) (.int .i64 0) (.int .i64 0) (.int .i64 0) (.slice none 0 0) (.int .i64 0) (.int .i64 0) (.int .i64 0) (.slice none 0 0)).drew
              have e2:b5.1[w.1.size]?=some (.cells #[.int .i64 1,.int .i64 (n:Nat),.slice sp sl.length aj,.int .i64 0,.int .i64 0,.int .i64 0,.slice none 0 0,.int .i64 0,.int .i64 0,.int .i64 0,.slice none 0 0] 67 (0,0)):=(by rw[a2,cz];exact az cv.out (.int .i64 1) (.int .i64 (n:Nat)) (.slice sp sl.length aj) (.int .i64 0) (.int .i64 0) (.int .i64 0) (.slice none 0 0) (.int .i64 0) (.int .i64 0) (.int .i64 0) (.slice none 0 0));unfold lo at a2;rw[<-a2];clear a2;refine bodyPost_ret (aw rfl _ _ w.1.size _ _ _ _ rfl e2 Tryz.underlying67 rfl (by kernel_rfl)) rfl ?_;rw[K.out];have ei:Fr.dec l=.ok { Fr0 with kind:=1,number:=n,cols:=sl }:=(by rw[<-e8.out,K.out]);have gz:=dj.out;exact⟨_,rfl,oA (f:={ Fr0 with kind:=1,number:=n,cols:=sl }) (Fr.dec_ok ei).2.2.1 rfl (gw gd.out cg (fun k U _ cs=>by omega)) O,X.out.trans (cg.below dc (fun k U=>by omega))⟩
      by_cases dr:cd=2
      · have c1:wr.cell? ⟨E,I,none⟩=some (.int .u8 2):=(by rw[c0,dr];rfl);have D:Hid (R=Fr.rdD (C.drop 1)):=by
          show _=_;rw[b2.out,Fr.rdF,if_neg cy,if_pos dr]
        obtain⟨ak,cc⟩:∃ak,ak=wr.alloc (.cells #[.int .i64 2147483648,.int .i64 1099511627776,.int .i64 1099511627776,.int .i64 65] 2):=⟨_,rfl⟩;have a3:Below wr.1.size wr ak:=(by rw[cc];exact gQy);have d9:Hid (wr.alloc (.cells #[.int .i64 2147483648,.int .i64 1099511627776,.int .i64 1099511627776,.int .i64 65] 2)=ak):=(by rw[cc];exact rfl);have c7:Ints ak wr.1.size (toI [2147483648,1099511627776,1099511627776,65]):=(by rw[cc];exact gX rfl rfl);have b4:=gQq (jq (some ⟨E,I,none⟩) cap C (by omega) 1 wr.1.size c6 [2147483648,1099511627776,1099511627776,65] (by simp) (by simp) ak (ce.out.on a3) c7);have c8:=(a3.block _ (aI Y.out)).trans Y.out;have Z:=gQq c8;have b3:=gQq (b1.out.trans (a3.mono ci));have cu:=gQq (ce.out.on a3);have dd:=b3.out.size;have gL:=aI Z.out;clear c0 b2 bk bn bq br bs bN bO bT bX b0 bp a4 a5 a7 a8 a9 bb bc be bi bj a6 cc a3 c7 c8 b1 Y ce;go_wp2_with fail;rw[d9.out];refine b4.out.mono ?_;rintro e L (⟨cx,M,rfl,o⟩ | ⟨d2,k,q,fb,M,rfl,cn,o⟩)
        · have K:Hid (R=.error 5):=by
            show _=_;rw[D.out,Fr.rdD,M,<-jv _ M]
          have y:=(o.block _ (aI Z.out)).trans Z.out;have z:=gQq y;have J:=gQq (b3.out.trans (o.mono dd));have O:=J.out.size;obtain⟨⟨bk,a4⟩,⟨bn,a5⟩,⟨bq,a7⟩,⟨br,a8⟩,⟨bs,a9⟩,⟨bN,bb⟩,⟨bO,bc⟩,⟨bT,be⟩,⟨bX,bi⟩,⟨b0,bj⟩,⟨bp,a6⟩⟩:=dx y;clear o y b4 D M;go_wp2;refine bodyPost_ret (aw rfl _ _ w.1.size _ _ _ _ rfl (az z.out _ _ _ _ _ _ _ _ _ _ _) Tryz.underlying67 rfl (by kernel_rfl)) rfl ?_;rw[K.out];exact⟨rfl,J.out.trans ((aA L w.1.size _ _ _ _ _ _ _ _ _ _ _).below O (fun k U=>by omega))⟩
        · have d0:=Fr.nbs_ok _ _ _ _ M;have eu:d2.length=4:=d0.1;match d2,eu with
          | [n0,n1,n2,n3],_=>
          have er:1+k<=C.length:=by
            obtain⟨-,-,r,ab,ah⟩:=d0;have:=congrArg List.length ab;rw[List.length_append,List.length_drop,<-ah] at this;omega
          have y:=(o.block _ (aI Z.out)).trans Z.out;have z:=gQq y;have J:=gQq (b3.out.trans (o.mono dd));have O:=J.out.size;obtain⟨hh,gl,e1,-,e0⟩:=cn.ints;rcases e0 with ew | ⟨g,el,gt,a0⟩
          · simp[toI] at ew
          injection e1 with hq1 hq2 hq3;subst hq1;subst el;have de:L.cell? ⟨g,0,none⟩=some (.int .i64 (n0:Nat)):=a0.2 0 (by simp[toI]);have f5:L.cell? ⟨g,1,none⟩=some (.int .i64 (n1:Nat)):=a0.2 1 (by simp[toI]);have f6:L.cell? ⟨g,2,none⟩=some (.int .i64 (n2:Nat)):=a0.2 2 (by simp[toI]);have f8:L.cell? ⟨g,3,none⟩=some (.int .i64 (n3:Nat)):=a0.2 3 (by simp[toI]);have ck:=gQq a0.1;have cr:=cu.out.on o;by_cases f2:n3<1
          · have K:Hid (R=.error 5):=by
              show _=_;rw[D.out,Fr.rdD,M];simp only[List.getD_cons_zero,List.getD_cons_succ];rw[if_pos f2]
            have g1:decide ((n3:Int)<1)=true:=decide_eq_true (by omega);obtain⟨⟨bk,a4⟩,⟨bn,a5⟩,⟨bq,a7⟩,⟨br,a8⟩,⟨bs,a9⟩,⟨bN,bb⟩,⟨bO,bc⟩,⟨bT,be⟩,⟨bX,bi⟩,⟨b0,bj⟩,⟨bp,a6⟩⟩:=dx y;clear o y b4 D M d0 eu cn a0 cr;go_wp2;refine bodyPost_ret (aw rfl _ _ w.1.size _ _ _ _ rfl (az z.out _ _ _ _ _ _ _ _ _ _ _) Tryz.underlying67 rfl (by kernel_rfl)) rfl ?_;rw[K.out];exact⟨rfl,J.out.trans ((aA L w.1.size _ _ _ _ _ _ _ _ _ _ _).below O (fun k U=>by omega))⟩
          · have K:Hid (R=.ok { Fr0 with kind:=2,number:=(n0:Nat),seq:=(n1:Nat),first:=(n2:Nat),rows:=(n3:Nat),block:=C.drop (1+k) }):=by
              show _=_;rw[D.out,Fr.rdD,M];simp only[List.getD_cons_zero,List.getD_cons_succ];rw[if_neg f2,List.drop_drop]
            have g1:decide ((n3:Int)<1)=false:=decide_eq_false (by omega);clear o b4 cu Z b3 cn hq2 hq3 M d0 eu D;obtain⟨A,c5⟩:∃A,A=1+k:=⟨_,rfl⟩;rw[<-c5] at er K ⊢;clear c5;have dh:Hid (At L (some ⟨E,I+A,none⟩) (C.drop A)):=by
              obtain⟨gg,hg,co,ee,eg⟩:=aC cr (by omega);injection co with co;injection co with ab ah _;subst ab ah;exact .inr ⟨E,I+A,rfl,ee,cF eg A⟩
            have g8:¬cap=A:=(by omega);have gs:(A:Int)<=(C.length:Int):=(by omega);have d4:Hid ((C.drop A).length=C.length-A):=(by show _=_;rw[List.length_drop]);have dj:=gQq (aI z.out);have g2:¬w.1.size=g:=(by omega);clear cr a0 y
            go_wp2_with (first|(at_builtin;refine aE (B:=L.1.size) (xs:=[]) (v:=.slice none 0 0) (l:=C.drop A) (aM _ _) dh.out (by rw[d4.out];simp;omega) gQx rfl rfl rfl rfl (by rw[d4.out];rfl) ?_;intro cj dp cq W ge da fh _;have X:=gQq (fh.below (B:=L.1.size) gQx (fun k _ U=>by cases U));have e5:=gQq da;have a1:=(X.out.block _ dj.out).trans z.out;have cv:=gQq a1;obtain⟨⟨bk,a4⟩,⟨bn,a5⟩,⟨bq,a7⟩,⟨br,a8⟩,⟨bs,a9⟩,⟨bN,bb⟩,⟨bO,bc⟩,⟨bT,be⟩,⟨bX,bi⟩,⟨b0,bj⟩,⟨bp,a6⟩⟩:=dx a1;have he:W.cell? ⟨g,0,none⟩=some (.int .i64 (n0:Nat)):=(X.out.cell (p:=⟨g,0,none⟩) ck.out).trans de;have hf:W.cell? ⟨g,1,none⟩=some (.int .i64 (n1:Nat)):=(X.out.cell (p:=⟨g,1,none⟩) ck.out).trans f5;have hA:W.cell? ⟨g,2,none⟩=some (.int .i64 (n2:Nat)):=(X.out.cell (p:=⟨g,2,none⟩) ck.out).trans f6;have hB:W.cell? ⟨g,3,none⟩=some (.int .i64 (n3:Nat)):=(X.out.cell (p:=⟨g,3,none⟩) ck.out).trans f8;have dc:=X.out.size;clear da fh a1 de f5 f6 f8)|fail)
            go_region_held3 (fun w'=>w'.cell? ⟨g,0,none⟩=some (.int .i64 (n0:Nat))∧w'.cell? ⟨g,1,none⟩=some (.int .i64 (n1:Nat))∧w'.cell? ⟨g,2,none⟩=some (.int .i64 (n2:Nat))∧w'.cell? ⟨g,3,none⟩=some (.int .i64 (n3:Nat))) (go_keep) (fail);go_wp2;have f4:cj=C.drop A:=ge.out;obtain⟨b5,a2⟩:∃b5,b5=(lo W w.1.size (.int .i64 2) (.int .i64 (n0:Nat)) (.slice none 0 0) (.int .i64 (n1:Nat)) (.int .i64 (n2:Nat)) (.int .i64 (n3:Nat)) (.slice dp cj.length cq) (.int .i64 0) (.int .i64 0) (.int .i64 0) (.slice none 0 0)).drew:=⟨_,rfl⟩;have cg:Aside (fun i=>i=w.1.size) W b5:=(by rw[a2];exact(aA _ w.1.size (.int .i64 2) (.int .i64 (n0:Nat)) (.slice none 0 0) (.int .i64 (n1:Nat)) (.int .i64 (n2:Nat)) (.int .i64 (n3:Nat)) (.slice dp cj.length cq) (.int .i64 0) (.int .i64 0) (.int .i64 0) (.slice none 0 0)).drew);have e2:b5.1[w.1.size]?=some (.cells #[.int .i64 2,.int .i64 (n0:Nat),.slice none 0 0,.int .i64 (n1:Nat),.int .i64 (n2:Nat),.int .i64 (n3:Nat),.slice dp cj.length cq,.int .i64 0,.int .i64 0,.int .i64 0,.slice none 0 0] 67 (0,0)):=(by rw[a2,cz];exact az cv.out (.int .i64 2) (.int .i64 (n0:Nat)) (.slice none 0 0) (.int .i64 (n1:Nat)) (.int .i64 (n2:Nat)) (.int .i64 (n3:Nat)) (.slice dp cj.length cq) (.int .i64 0) (.int .i64 0) (.int .i64 0) (.slice none 0 0));unfold lo at a2;rw[<-a2];clear a2;refine bodyPost_ret (aw rfl _ _ w.1.size _ _ _ _ rfl e2 Tryz.underlying67 rfl (by kernel_rfl)) rfl ?_;have ec:=K.out;rw[<-f4] at ec;rw[ec];have ei:Fr.dec l=.ok { Fr0 with kind:=2,number:=(n0:Nat),seq:=(n1:Nat),first:=(n2:Nat),rows:=(n3:Nat),block:=cj }:=by rw[<-e8.out,ec]
            have gz:=dj.out;have hc:cj.length<=2200:=(by rw[f4,d4.out];omega);exact⟨_,rfl,oB (f:={ Fr0 with kind:=2,number:=(n0:Nat),seq:=(n1:Nat),first:=(n2:Nat),rows:=(n3:Nat),block:=cj }) (Fr.dec_ok ei).2.2.1 rfl (e5.out.aside cg (fun k U cs=>by have:=(e5.out.lt k U).1;omega)) hc O,J.out.trans ((X.out.mono O).trans (cg.below (Nat.le_trans O dc) (fun k U=>by omega)))⟩
      by_cases ea:cd=3
      · have c1:wr.cell? ⟨E,I,none⟩=some (.int .u8 3):=(by rw[c0,ea];rfl);have d5:=gQq (pJ (some ⟨E,I,none⟩) cap C gu c6 wr ce.out);have D:Hid (R=Fr.rdI (C.drop 1)):=by
          show _=_;rw[b2.out,Fr.rdF,if_neg cy,if_neg dr,if_pos ea]
        clear c0 b2 bk bn bq br bs bN bO bT bX b0 bp a4 a5 a7 a8 a9 bb bc be bi bj a6;go_wp2_with fail;refine d5.out.mono ?_;rintro e L hd;cases hrd:Fr.rdI (C.drop 1) with
        |error cx=>
          rw[hrd] at hd;obtain⟨rfl,o⟩:=hd;have K:Hid (R=.error cx):=(by show _=_;rw[D.out,hrd]);have y:=(o.block _ (aI Y.out)).trans Y.out;have z:=gQq y;have J:=gQq (b1.out.trans (o.mono ci));have O:=J.out.size;obtain⟨⟨bk,a4⟩,⟨bn,a5⟩,⟨bq,a7⟩,⟨br,a8⟩,⟨bs,a9⟩,⟨bN,bb⟩,⟨bO,bc⟩,⟨bT,be⟩,⟨bX,bi⟩,⟨b0,bj⟩,⟨bp,a6⟩⟩:=dx y;clear o y d5 D hrd;go_wp2;refine bodyPost_ret (aw rfl _ _ w.1.size _ _ _ _ rfl (az z.out _ _ _ _ _ _ _ _ _ _ _) Tryz.underlying67 rfl (by kernel_rfl)) rfl ?_;rw[K.out];exact⟨rfl,J.out.trans ((aA L w.1.size _ _ _ _ _ _ _ _ _ _ _).below O (fun k U=>by omega))⟩
        |ok f=>
          rw[hrd] at hd;obtain⟨u,rfl,ez,o⟩:=hd;have K:Hid (R=.ok f):=(by show _=_;rw[D.out,hrd]);have y:=(o.block _ (aI Y.out)).trans Y.out;have z:=gQq y;have J:=gQq (b1.out.trans (o.mono ci));have O:=J.out.size;have gb:=gQq (aI Y.out);obtain⟨⟨bk,a4⟩,⟨bn,a5⟩,⟨bq,a7⟩,⟨br,a8⟩,⟨bs,a9⟩,⟨bN,bb⟩,⟨bO,bc⟩,⟨bT,be⟩,⟨bX,bi⟩,⟨b0,bj⟩,⟨bp,a6⟩⟩:=dx y;have e7:=gQq ez;obtain⟨sp,aj,gh,cq,gn,gm,cp,-⟩:=ez.out;subst cp;clear o y d5 D hrd ez;unfold bJ at e7 ⊢;go_wp2;refine bodyPost_ret (aw rfl _ _ w.1.size _ _ _ _ rfl (az z.out _ _ _ _ _ _ _ _ _ _ _) Tryz.underlying67 rfl (by kernel_rfl)) rfl ?_;rw[K.out];have hp:=gb.out;have cg:=aA L w.1.size (.int .i64 f.kind) (.int .i64 f.number) (.slice sp f.cols.length aj) (.int .i64 f.seq) (.int .i64 f.first) (.int .i64 f.rows) (.slice gh f.block.length cq) (.int .i64 f.index.at_) (.int .i64 f.index.frames) (.int .i64 f.index.rows) (.slice gn f.index.entries.length gm);exact⟨_,rfl,(e7.out.aside cg (fun k U _ cs=>by omega)).low ci,J.out.trans (cg.below O (fun k U=>by omega))⟩
      · have hk:((cd:Int)==1)=false:=(by rw[beq_eq_false_iff_ne];omega);have hl:((cd:Int)==2)=false:=(by rw[beq_eq_false_iff_ne];omega);have hm:((cd:Int)==3)=false:=(by rw[beq_eq_false_iff_ne];omega);have D:Hid (R=.error 60):=by
          show _=_;rw[b2.out,Fr.rdF,if_neg cy,if_neg dr,if_neg ea]
        clear b2;go_wp2;refine bodyPost_ret (aw rfl _ _ w.1.size _ _ _ _ rfl (az Y.out _ _ _ _ _ _ _ _ _ _ _) Tryz.underlying67 rfl (by kernel_rfl)) rfl ?_;rw[D.out];exact⟨rfl,b1.out.trans ((aA wr w.1.size _ _ _ _ _ _ _ _ _ _ _).below ci (fun k U=>by omega))⟩
end
section
open Go.RowKit
theorem nP(p:OA)(c:Nat)(l:L8)(o:2200<l.length)(y:l.length<=140737488351232)(w:World):
  Calls Tryz.prog 22 #[.slice p l.length c] w (lg w (.error 2)):=by
 have z:(2200:Int)<(l.length:Int):=by omega
 go_enter Tryz.func22,Tryz.ntmps22;go_wp2;refine bodyPost_ret (aw rfl _ _ w.1.size _ _ _ _ rfl (am w _) Tryz.underlying67 rfl (by kernel_rfl)) rfl ?_;exact⟨rfl,gQy⟩
theorem gR(p:OA)(c:Nat)(l:L8)(ah:l.length<=2200)(o:Nat)(body:L8)(X:Cob.un l=(o,body))(w:World)(h:At w p l)(R:Nat)(U:R=if o≠0 then o else 30)(J:o=0->body.length<5):
  Calls Tryz.prog 22 #[.slice p l.length c] w (lg w (.error R)):=by
 obtain⟨w0,y⟩:∃w0,w0=w.alloc (.cells #[.int .i64 0,.int .i64 0,.slice none 0 0,.int .i64 0,.int .i64 0,.int .i64 0,.slice none 0 0,.int .i64 0,.int .i64 0,.int .i64 0,.slice none 0 0] 67):=⟨_,rfl⟩;have a0:w0.1.size=w.1.size+1:=by rw[y];simp
 have D:Hid (Below w.1.size w w0):=by rw[y];exact gQy
 have S:w0.1[w.1.size]?=some (.cells #[.int .i64 0,.int .i64 0,.slice none 0 0,.int .i64 0,.int .i64 0,.int .i64 0,.slice none 0 0,.int .i64 0,.int .i64 0,.int .i64 0,.slice none 0 0] 67 (0,0)):=by rw[y];exact am w _
 have Q:Hid (w.alloc (.cells #[.int .i64 0,.int .i64 0,.slice none 0 0,.int .i64 0,.int .i64 0,.int .i64 0,.slice none 0 0,.int .i64 0,.int .i64 0,.int .i64 0,.slice none 0 0] 67)=w0):=by rw[y];exact rfl
 have z:=gQq (fE p c l (by omega) w0 (h.on D.out));rw[X] at z;simp only at z;have ak:¬(2200:Int)<(l.length:Int):=by omega
 have O:=gQq U;clear y h X U;go_enter Tryz.func22,Tryz.ntmps22;go_wp2_with fail;rw[Q.out];refine z.out.mono ?_;rintro e w1 ⟨v,rfl,W,L⟩;obtain⟨q,cap,rfl,-,-⟩:=W.at;have E:=gQq (D.out.trans (L.mono D.out.size));have K:=(L.block _ (by omega)).trans S;have M:=gQq K;have Y:=E.out.size;obtain⟨⟨be,a1⟩,⟨bi,a2⟩,⟨bk,a4⟩,⟨bn,a5⟩,⟨bp,a6⟩,⟨bq,a7⟩,⟨br,a8⟩,⟨bs,a9⟩,⟨bN,bb⟩,⟨bO,bc⟩,⟨bj,a3⟩⟩:=dx K;clear W L S K z Q;by_cases V:o=0
 ·subst V;have aj:(body.length:Int)<5:=by have:=J rfl;omega
  have I:Hid (R=30):=by show _=_;rw[O.out];simp
  clear J;go_wp2;refine bodyPost_ret (aw rfl _ _ w.1.size _ _ _ _ rfl (az M.out _ _ _ _ _ _ _ _ _ _ _) Tryz.underlying67 rfl (by kernel_rfl)) rfl ?_;rw[I.out];exact⟨rfl,E.out.trans ((aA w1 w.1.size _ _ _ _ _ _ _ _ _ _ _).below Y (fun k Z=>by omega))⟩
 ·have ab:((o:Int) != 0)=true:=by rw[bne_iff_ne];omega
  have I:Hid (R=o):=by show _=_;rw[O.out,if_pos V]
  clear J;go_wp2;refine bodyPost_ret (aw rfl _ _ w.1.size _ _ _ _ rfl (az M.out _ _ _ _ _ _ _ _ _ _ _) Tryz.underlying67 rfl (by kernel_rfl)) rfl ?_;rw[I.out];exact⟨rfl,E.out.trans ((aA w1 w.1.size _ _ _ _ _ _ _ _ _ _ _).below Y (fun k Z=>by omega))⟩
theorem nO(p:OA)(c:Nat)(l:L8)(Q:l.length<=140737488351232)(w:World)(h:At w p l):
  Calls Tryz.prog 22 #[.slice p l.length c] w (lg w (Fr.dec l)):=by
 by_cases K:2200<l.length
 ·have e:Fr.dec l=.error 2:=by unfold Fr.dec Fr.open_;rw[if_pos K]
  rw[e];exact nP p c l K Q w
 ·obtain⟨o,body,y⟩:∃o body,Cob.un l=(o,body):=⟨_,_,rfl⟩;by_cases J:o=0
  ·subst J;by_cases L:body.length<5
   ·have e:Fr.dec l=.error 30:=(by unfold Fr.dec Fr.open_;rw[if_neg K,y];simp[L]);rw[e];exact gR p c l (by omega) 0 body y w h 30 (by simp) (fun _=>L)
   ·obtain⟨C,z,D,E,I,hb⟩:∃C z D E I,body=C++[z,D,E,I]:=by
     have hd:(body.drop (body.length-4)).length=4:=(by rw[List.length_drop];omega);match hx:body.drop (body.length-4),hd with
     | [z,D,E,I],_=>exact⟨body.take (body.length-4),z,D,E,I,by rw[<-hx,List.take_append_drop]⟩
    subst hb;have M:=Cob.un_length l;rw[y] at M;simp only[List.length_append,List.length_cons,List.length_nil] at M L;exact pL p c l (by omega) C z D E I y (by omega) (by omega) w h
  ·have e:Fr.dec l=.error o:=(by unfold Fr.dec Fr.open_;rw[if_neg K,y];simp[J]);rw[e];exact gR p c l (by omega) o body y w h o (by rw[if_pos J]) (fun O=>absurd O J)
end
end Go.Proofs.YtbahfgdbjgkklaaGreatDoor
