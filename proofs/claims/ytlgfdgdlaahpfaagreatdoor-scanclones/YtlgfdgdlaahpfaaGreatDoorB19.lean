import Derived.Test.YtlgfdgdlaahpfaaGreatDoorB18
set_option maxRecDepth 100000
set_option maxHeartbeats 2000000
namespace Go.Proofs.YtlgfdgdlaahpfaaGreatDoor
section
open Go.RowKit Go.Maps
attribute [local go_sem] ai
theorem cr.names{w:World}{M n:Nat}{l l':List Col}(h:cr w M n l)(he:l.map Col.name=l'.map Col.name):cr w M n l':=by
 obtain⟨D,h1,h2⟩:=h.out
 refine⟨D,h1,fun t=>?_⟩
 rw[h2 t]
 have e:∀l:List Col,l.any (fun x=>decide (x.name=t))=(l.map Col.name).any (fun x=>decide (x=t)):=fun l=>by rw[List.any_map];rfl
 rw[e l,e l',he]
theorem qn:Sch.name ⟨#[]⟩=false:=by kernel_rfl
theorem tv(s:List Col)(b:L8):Sch.rdC s b=am (fY b) fun nm j=>if s.any (fun x=>decide (x.name=nm)) then .error 71 else am (jP nm (b.drop j)) fun c j'=>.ok (c,j+j'):=by
 unfold Sch.rdC fY
 cases hn:Sch.num b with
 |error e=>
  have e1:Sch.text 16 70 b=.error e:=by unfold Sch.text;rw[hn]
  rw[e1]
  rfl
 |ok nk=>
  obtain⟨n,k⟩:=nk
  dsimp only
  by_cases h0:n=0
  ·subst h0
   have e1:Sch.text 16 70 b=.ok (⟨#[]⟩,k+0):=by
    unfold Sch.text
    rw[hn]
    dsimp only
    rw[if_neg (by omega),if_neg (by omega)]
    simp
   rw[if_pos rfl,e1]
   dsimp only
   rw[if_pos qn]
   rfl
  ·rw[if_neg h0]
   cases Sch.text 16 70 b with
   |error e=>rfl
   |ok sj=>
    obtain⟨t,j⟩:=sj
    dsimp only
    by_cases hnm:Sch.name t=false
    ·rw[if_pos hnm,if_pos hnm];rfl
    ·rw[if_neg hnm,if_neg hnm,aI]
     by_cases ha:(s.any (fun x=>decide (x.name=t)))=true
     ·rw[if_pos ha,if_pos ha]
     ·rw[if_neg ha,if_neg ha]
      unfold jP
      cases Sch.rdT 4 (b.drop j) with
      |error e=>rfl
      |ok tj=>
       obtain⟨ty,j2⟩:=tj
       rw[aI,List.drop_drop]
       dsimp only
       cases Sch.bit (b.drop (j+j2)) with
       |error e=>rfl
       |ok hj=>
        obtain⟨h,j3⟩:=hj
        rw[aI]
        dsimp only
        by_cases hh:h=0
        ·rw[if_pos hh,if_pos hh,aI,Nat.add_assoc]
        ·rw[if_neg hh,if_neg hh,List.drop_drop,Nat.add_assoc]
         cases Sch.rdV ty (b.drop (j+(j2+j3))) with
         |error e=>rfl
         |ok vj=>
          obtain⟨v,j4⟩:=vj
          rw[aI,aI]
          dsimp only
          rw[Nat.add_assoc,Nat.add_assoc]
theorem o9{nm:ByteArray}{l:L8}{c:Col}{j:Nat}(h:jP nm l=.ok (c,j)):c.name=nm:=by
 unfold jP at h
 cases h1:Sch.rdT 4 l with
 |error e=>rw[h1] at h;cases h
 |ok tj=>
  obtain⟨t,j2⟩:=tj
  rw[h1,aI] at h
  cases h2:Sch.bit (l.drop j2) with
  |error e=>rw[h2] at h;cases h
  |ok hj=>
   obtain⟨hf,j3⟩:=hj
   rw[h2,aI] at h
   split at h
   ·injection h with h
    injection h with h _
    rw[<-h]
   ·cases h3:Sch.rdV t (l.drop (j2+j3)) with
    |error e=>rw[h3] at h;cases h
    |ok vj=>
     obtain⟨v,j4⟩:=vj
     rw[h3,aI] at h
     injection h with h
     injection h with h _
     rw[<-h]
def uM(w:World)(s:List Col)(v:Value)(w':World):Prop:=∃us Fs,aL w' w.1.size v s.length us Fs s
def ge(l:L8):Except Nat (List Col×Nat):=am (ba 16 3 l) fun n k=>if n=0 then .error 4 else am (Sch.rdCs n [] (l.drop k)) fun s j=>.ok (s,k+j)
structure iF(w wr:World)(A R M n:Nat)(l:L8)(r:Except Nat (List Col×Nat))(s:List Col)(v:Value):Prop where
 built:∃us Fs,aL wr (M+1) v s.length us Fs s
 names:cr wr M s.length s
 left:∃k,Rdr wr A R (l.drop k)∧r=shift k (Sch.rdCs (n-s.length) s (l.drop k))
 aside:Aside (fun i=>i=R) w wr
 low:R<w.1.size
 mid:w.1.size<=M
 len:s.length<=n
theorem jN{w w1:World}{A R n:Nat}{l:L8}(h:Rdr w1 A R l)(ha:Aside (fun i=>i=R) w w1)(hlow:R<w.1.size):iF w (w1.alloc (.map #[] 0)) A R w1.1.size n l (Sch.rdCs n [] l) [] (.slice none 0 0):=by
 have hb:Below w1.1.size w1 (w1.alloc (.map #[] 0)):=vY
 refine⟨⟨_,_,iw _ _⟩,ii w1,⟨0,h.on hb,?_⟩,ha.trans (ae hb (fun _=>False)) (fun _ _ h=>h.elim),hlow,ha.size,Nat.zero_le _⟩
 rw[List.drop_zero,List.length_nil,Nat.sub_zero]
 cases Sch.rdCs n [] l with
 |error e=>rfl
 |ok p=>simp[shift]
theorem iF.next{w wr w2 w3 w4:World}{A R M n:Nat}{l:L8}{r:Except Nat (List Col×Nat)}{s:List Col}{v:Value}(h:iF w wr A R M n l r s v){us:Nat->AV}{Fs:Nat->Nat->Prop}(hbt:aL wr (M+1) v s.length us Fs s){k j:Nat}{c:Col}{u:AV}(hlt:s.length<n)(hl:r=shift k (Sch.rdCs (n-s.length) s (l.drop k)))(hc:Sch.rdC s (l.drop k)=.ok (c,j))(a12:Aside (fun i=>i=R∨i=M) wr w2)(hN:cr w2 M (s.length+1) (s++[c]))(ha:Aside (fun i=>i=R) w2 w3)(hown:cN w3 (fun i=>w2.1.size<=i∧i<w3.1.size) u c)(hrd:Rdr w3 A R ((l.drop k).drop j)):
  (w3.alloc (.cells u 89)).ownsRow (M+1) 89 9 v s.length (flat us s.length) ∧
  ∀g cap,w4.ownsRow (M+1) 89 9 (.slice (some ⟨g,0,none⟩) (s.length+1) cap) (s.length+1) (flat us s.length++u.toList)->(w3.alloc (.cells u 89)).grownBy w4 v.ownBlock->(v.ownBlock=some g∨g=(w3.alloc (.cells u 89)).1.size) ->
   iF w w4 A R M n l r (s++[c]) (.slice (some ⟨g,0,none⟩) (s.length+1) cap):=by
 have hlow:=h.low
 have hmid:=h.mid
 have hMlt:=h.names.lt
 have hs2:=a12.size
 have hs3:=ha.size
 have hb3:Below w3.1.size w3 (w3.alloc (.cells u 89)):=vY
 have hs4:=hb3.size
 have hb2:aL w2 (M+1) v s.length us Fs s:=hbt.aside a12 (fun g hg he=>by have:=(hbt.lt g hg).1;omega) (fun i hi k hk he=>by have:=(hbt.range i hi k hk).1;omega)
 obtain⟨wx,hx1,hx2,hx3⟩:=ha.split (by omega)
 have hbx:aL wx (M+1) v s.length us Fs s:=hb2.aside hx1 (fun g hg he=>by have:=(hb2.lt g hg).1;omega) (fun i hi k hk he=>by have:=(hb2.range i hi k hk).1;omega)
 refine⟨((hbx.on hx3).on hb3).row,fun g cap hr hg hn=>?_⟩
 have hst:=hbx.step hx3 hown (fun k hk=>⟨by rw[hx2];exact hk.1,hk.2⟩) hb3 (by rw[hx2];omega) hr hg hn
 have hs5:=hg.size
 have hv:=fun k (hk:v.ownBlock=some k)=>(hbx.lt k hk)
 have a34:Aside (fun k=>v.ownBlock=some k) w3 w4:=(ae hb3 _).trans (G:=fun k=>v.ownBlock=some k) ⟨hg.os,hg.tape,hg.output,hg.size,fun k hk hf=>hg.block k hk (fun hc=>hf hc.symm)⟩ (fun _ _ h=>h)
 refine⟨⟨_,_,by rw[List.length_append,List.length_singleton];exact hst⟩,?_,⟨k+j,?_,?_⟩,?_,hlow,hmid,by rw[List.length_append,List.length_singleton];omega⟩
 ·rw[List.length_append,List.length_singleton]
  refine hN.keep ?_
  rw[a34.block M (by omega) (fun hc=>by have:=(hv M hc).1;omega),ha.block M (by omega) (by omega)]
 ·rw[<-List.drop_drop]
  exact hrd.aside a34 (fun i hi=>by have:=(hv i hi).1;omega)
 ·rw[hl,show n-s.length=(n-(s++[c]).length)+1 by rw[List.length_append,List.length_singleton];omega,je,hc,pC,kt,List.drop_drop]
 ·refine((h.aside.trans a12 (fun i hi hc=>hc.elim id (fun h=>by omega))).trans ha (fun _ _ h=>h)).trans a34 (fun i hi hc=>?_)
  have:=(hv i hc).1
  omega
end
section
open Go.RowKit Go.Maps
attribute [local go_sem] ai
theorem rk(l:L8)(A R:Nat)(w:World)(h:Rdr w A R l):Calls Tryz.prog 105 #[.pointer (some ⟨R,0,none⟩)] w (RdA w A R l (ge l) (uM w)):=by
  have hmm:=@run_makeMap Tryz.prog
  have hR:=h.lt
  have HC0:=vQ (jM 16 3 (by omega) l A R w h)
  obtain⟨r,hr⟩:∃r,r=ge l:=⟨_,rfl⟩
  have HR:Hid (r=am (ba 16 3 l) fun n k=>if n=0 then .error 4 else am (Sch.rdCs n [] (l.drop k)) fun s j=>.ok (s,k+j)):=hr
  rw[<-hr]
  obtain⟨m0,hm0⟩:∃m,m=ba 16 3 l:=⟨_,rfl⟩
  rw[<-hm0] at HR HC0
  have HM:=vQ hm0
  clear hr hm0 h
  cases m0 with
  |error er=>
    have HR2:Hid (r=.error er):=HR.out
    clear HR
    go_enter Tryz.func105,Tryz.ntmps105
    go_wp2_with fail
    refine HC0.out.mono ?_
    intro e w1 hh
    obtain⟨he,ha⟩:=hh.bad
    subst he
    clear hh
    have HA:=vQ ha
    clear ha HC0
    go_wp2
    rw[HR2.out]
    exact⟨rfl,rfl,HA.out⟩
  |ok nk=>
    obtain⟨n,k⟩:=nk
    have hn16:n<=16:=count_le HM.out.symm
    have HR1:Hid (r=if n=0 then .error 4 else am (Sch.rdCs n [] (l.drop k)) fun s j=>.ok (s,k+j)):=HR.out
    clear HR HM
    go_enter Tryz.func105,Tryz.ntmps105
    go_wp2_with fail
    refine HC0.out.mono ?_
    intro e w1 hh
    obtain⟨v,he,hv,hrd,ha⟩:=hh.good
    clear hh
    replace hv:v=.int .i64 (n:Nat):=hv
    subst hv
    subst he
    have HA1:=vQ ha
    have HRd1:=vQ hrd
    clear ha hrd HC0
    by_cases hn0:n=0
    · have HR2:Hid (r=.error 4):=HR1.out.trans (if_pos hn0)
      have g0:decide ((0:Int)<(n:Int))=false:=decide_eq_false (by omega)
      clear HR1
      subst hn0
      go_wp2_with fail
      refine(cE _ 4 _).mono ?_
      rintro e w2 ⟨rfl,hw2⟩
      rw[hw2]
      clear hw2 w2
      go_wp2
      rw[HR2.out]
      exact⟨rfl,rfl,HA1.out⟩
    have HR2:Hid (r=am (Sch.rdCs n [] (l.drop k)) fun s j=>.ok (s,k+j)):=HR1.out.trans (if_neg hn0)
    have g0:decide (0<n)=true:=decide_eq_true (by omega)
    have hnI:(n:Int)<=16:=by omega
    clear HR1
    go_wp2_with fail
    try rw[g0]
    refine(cD _ 4 _).mono ?_
    rintro e w2 ⟨rfl,hw2⟩
    rw[hw2]
    clear hw2 w2
    obtain⟨L,hL⟩:∃L,L=l.drop k:=⟨_,rfl⟩
    rw[<-hL] at HR2 HRd1
    have HL:=vQ hL
    obtain⟨rr,hrr⟩:∃rr,rr=Sch.rdCs n [] L:=⟨_,rfl⟩
    have HS0:=vQ (jN (n:=n) HRd1.out HA1.out hR)
    rw[<-hrr] at HR2 HS0
    clear hrr hL HRd1
    go_wp2_with fail
    go_loopw [4,18] (fun v4 v18 wr=>∃(s:List Col) (q:OA) (c:Nat),v18=.int .i64 s.length∧v4=.slice q s.length c∧s.length<=n∧Hid (iF w wr A R w1.1.size n L rr s (.slice q s.length c))) (fun _ v18 _=>n-(intOf v18).toNat)
    case atStart=>exact⟨[],none,0,rfl,rfl,Nat.zero_le _,HS0.out⟩
    case round=>
      obtain⟨s,q,c,rfl,rfl,hsl,HI⟩:=hrel
      by_cases hlt:s.length<n
      · have hj1:(s.length:Int)<(n:Int):=by omega
        obtain⟨k1,hrd,hl⟩:=HI.out.left
        obtain⟨us,Fs,hbt⟩:=HI.out.built
        have HBt:=vQ hbt
        have HLl:=vQ hl
        have HCn:=vQ (tw (L.drop k1) A R wr hrd)
        have HRc:=vQ (tv s (L.drop k1))
        -- where the column can't be read
        have HBad:Hid (∀er,Sch.rdC s (L.drop k1)=.error er->r=.error er):=fun er he=>by
          have e1:rr=.error er:=by
            rw[hl,show n-s.length=(n-s.length-1)+1 by omega,je,he]
            rfl
          rw[HR2.out,e1]
          rfl
        obtain⟨mn,hmn⟩:∃m,m=fY (L.drop k1):=⟨_,rfl⟩
        rw[<-hmn] at HCn HRc
        have HMn:=vQ hmn
        clear hrd hl hbt hmn
        go_wp2_with fail
        refine HCn.out.mono ?_
        intro e w2 hh
        cases mn with
        |error er=>
          have HRe:Hid (r=.error er):=HBad.out er HRc.out
          obtain⟨he,ha⟩:=hh.bad
          subst he
          clear hh
          have HA:=vQ (HI.out.aside.trans ha (fun _ _ h=>h))
          clear ha HCn
          go_wp2
          rw[HRe.out]
          exact⟨rfl,rfl,HA.out⟩
        |ok nj=>
          obtain⟨nm,j⟩:=nj
          obtain⟨v,he,hv,hrd,ha⟩:=hh.good
          clear hh
          replace hv:v=.string nm:=hv
          subst hv
          subst he
          have hnm:nm.size<=140737488351232:=by
            have h1:=HMn.out.symm
            unfold fY at h1
            split at h1
            · cases h1
            · next t k2 ht=>
              split at h1
              · cases h1
              · injection h1 with h1
                injection h1 with h1 _
                have:=(Sch.text_ok ht).1
                rw[<-h1]
                omega
          have HRc1:Hid (Sch.rdC s (L.drop k1)=if s.any (fun x=>decide (x.name=nm)) then .error 71 else am (jP nm ((L.drop k1).drop j)) fun c j'=>.ok (c,j+j')):=HRc.out
          have HA2:=vQ ha
          have HRd2:=vQ hrd
          have hMlt:=HI.out.names.lt
          have hmid:=HI.out.mid
          have HN2:Hid (cr w2 w1.1.size s.length s):=HI.out.names.keep (ha.block _ hMlt (by omega))
          have HKey:=vQ (ni hnm)
          obtain⟨D,hown,hhas⟩:=HN2.out.out
          have HOa:=vQ hown
          have HHas:=vQ (hhas nm)
          have HPut:=vQ (fun d t=>nw hown hhas ⟨nm,⟨0,[]⟩,false,V0⟩ d t)
          obtain⟨ra,hra⟩:∃b,b=s.any (fun x=>decide (x.name=nm)):=⟨_,rfl⟩
          rw[<-hra] at HHas HRc1
          have hs2:=ha.size
          clear ha hrd hown hhas HCn HRc HMn hra
          cases ra with
          |true=>
            have HRe:Hid (r=.error 71):=HBad.out 71 (HRc1.out.trans (if_pos (by first | rfl | trivial)))
            have HA:=vQ (HI.out.aside.trans HA2.out (fun _ _ h=>h))
            clear HRc1
            go_wp2_with (first | (at_lookup;refine wpList_lookup_own_ok_int _ rfl _ _ 169 rfl 9 3 .i64 oC Tryz.underlying169 Tryz.underlying3 (mY _) w1.1.size s.length D rfl HOa.out _ _ rfl HKey.out ?_;intro cc hat hwc;rw[HHas.out];clear hat hwc))
            refine(cE _ 71 _).mono ?_
            rintro e w3 ⟨rfl,hw3⟩
            rw[hw3]
            clear hw3 w3
            go_wp2
            rw[HRe.out]
            exact⟨rfl,rfl,HA.out⟩
          |false=>
            have HRc2:Hid (Sch.rdC s (L.drop k1)=am (jP nm ((L.drop k1).drop j)) fun c j'=>.ok (c,j+j')):=HRc1.out.trans (if_neg (by first | decide | simp))
            clear HRc1
            go_wp2_with (first | (at_lookup;refine wpList_lookup_own_ok_int _ rfl _ _ 169 rfl 9 3 .i64 oC Tryz.underlying169 Tryz.underlying3 (mY _) w1.1.size s.length D rfl HOa.out _ _ rfl HKey.out ?_;intro cc hat hwc;rw[HHas.out];clear hat hwc))
            refine(cD _ 71 _).mono ?_
            rintro e w3 ⟨rfl,hw3⟩
            rw[hw3]
            clear hw3 w3
            go_wp2_with (first
              | (at_mapUpdate;refine wpList_mapUpdate_own _ rfl _ _ _ 169 rfl 9 3 oC Tryz.underlying169 _ w1.1.size s.length D rfl HOa.out (by unfold maxLen;omega) _ _ _ rfl rfl HKey.out _ [] (plainElem_int Tryz.underlying3 (WalkArith.wf_i64 (by omega))) ?_;intro w3 hown1 hgr1
                 have HO1:=vQ hown1
                 have HG1:=vQ hgr1
                 clear hown1 hgr1))
            have HA3:Hid (Aside (fun i=>i=R∨i=w1.1.size) wr w3):=by
              refine(HA2.out.mono (fun _ _ h=>.inl h)).trans (G:=fun i=>i=w1.1.size) ⟨HG1.out.os,HG1.out.tape,HG1.out.output,HG1.out.size,fun i hi hf=>HG1.out.block i hi (fun hc=>hf (by injection hc))⟩ (fun _ _ h=>.inr h)
            have HRd3:Hid (Rdr w3 A R ((L.drop k1).drop j)):=HRd2.out.keep (fun i hi=>HG1.out.block i (by have:=HRd2.out.lt;omega) (fun hc=>by injection hc with hc;omega)) HG1.out.size
            have HAw3:Hid (Aside (fun i=>i=R) w w3):=HI.out.aside.trans HA3.out (fun i hi hc=>hc.elim id (fun h=>by omega))
            have HCc:=vQ (sI nm ((L.drop k1).drop j) A R w3 HRd3.out)
            obtain⟨mc,hmc⟩:∃m,m=jP nm ((L.drop k1).drop j):=⟨_,rfl⟩
            rw[<-hmc] at HCc HRc2
            have HMc:=vQ hmc
            clear hmc HRd2 HA2 HOa HHas HN2 HKey HG1
            go_wp2_with fail
            refine HCc.out.mono ?_
            intro e w4 hh
            cases mc with
            |error er=>
              have HRe:Hid (r=.error er):=HBad.out er HRc2.out
              obtain⟨he,ha⟩:=hh.bad
              subst he
              clear hh
              have HA:=vQ (HAw3.out.trans ha (fun _ _ h=>h))
              clear ha HCc
              go_wp2
              rw[HRe.out]
              exact⟨rfl,rfl,HA.out⟩
            |ok cj=>
              obtain⟨col,j'⟩:=cj
              have HRc3:Hid (Sch.rdC s (L.drop k1)=.ok (col,j+j')):=HRc2.out
              obtain⟨v,he,hv,hrd,ha⟩:=hh.good
              obtain⟨u,hv2,hown⟩:=hv.open
              clear hh hv
              have hcn:col.name=nm:=o9 HMc.out.symm
              have HN3:Hid (cr w3 w1.1.size (s.length+1) (s++[col])):=by
                refine cr.names (l:=s++[⟨nm,⟨0,[]⟩,false,V0⟩]) ⟨_,HO1.out,HPut.out _⟩ ?_
                simp[hcn]
              have HNx:=vQ (fun w5=>HI.out.next (w4:=w5) HBt.out hlt HLl.out HRc3.out HA3.out HN3.out ha hown (by rw[<-List.drop_drop];exact hrd))
              have HOn:=vQ hown
              obtain⟨F1,F2,k',tp',tn',tc',vk',vi',vb',vt',vp',vn',vc',hu,-⟩:=hown.out
              subst hu
              subst hv2
              subst he
              unfold aA at HOn HNx ⊢
              have hs4:=ha.size
              have hs3:=HA3.out.size
              have hszB:w1.1.size+1<=w4.1.size+1:=by omega
              clear ha hrd hown HCc HRc2 HMc HO1 HPut hcn
              go_wp2_with (first
                | (at_builtin;refine po (B:=w1.1.size+1) (us:=us) (v:=.slice q s.length c) (n:=s.length) (HNx.out w4).1 (u:=#[.string col.name,.int .i64 k',.slice tp' tn' tc',.bool col.has,.int .i64 vk',.int .i64 vi',.float .f64 vb',.string vt',.slice vp' vn' vc']) rfl HOn.out.one9 (ad:=w4.1.size) (ag w4 _) (by omega) (by simpa using hszB) (H:=w4.1.size+1) (by simp) rfl rfl rfl rfl ?_
                   intro g2 cap2 w5 hr5 hg5 hn5
                   have HI5:=vQ ((HNx.out w5).2 g2 cap2 hr5 hg5 (by simpa using hn5))
                   clear hr5 hg5 hn5))
              go_roundw
              case rel=>
                refine⟨s++[col],some ⟨g2,0,none⟩,cap2,by simp,by simp,by simp;omega,?_⟩
                have:=HI5.out
                rw[List.length_append,List.length_singleton]
                exact this
              case measure=>simp[intOf];omega
      · have hjn:¬(s.length:Int)<(n:Int):=by omega
        have hm0:n-s.length=0:=by omega
        obtain⟨k1,hrd,hl⟩:=HI.out.left
        obtain⟨us,Fs,hbt⟩:=HI.out.built
        have HRok:Hid (r=.ok (s,k+k1)):=by
          show _=_
          rw[HR2.out,hl,hm0]
          rfl
        have HCs:Hid (uM w s (.slice q s.length c) wr):=⟨us,Fs,hbt.low (by have:=HI.out.mid;omega)⟩
        have HRd:Hid (Rdr wr A R (l.drop (k+k1))):=by
          show Rdr _ _ _ _
          rw[<-List.drop_drop,<-HL.out]
          exact hrd
        have HA:=vQ HI.out.aside
        clear hrd hl hbt HI hm0
        go_wp2
        go_ret
        rw[HRok.out]
        exact⟨_,rfl,HCs.out,HRd.out,HA.out⟩
end
section
open Go.RowKit
theorem rl{l:L8}{s:List Col}{k:Nat}(h:ge l=.ok (s,k)):k<=l.length∧s.length<=16:=by
 unfold ge at h
 cases h1:ba 16 3 l with
 |error e=>rw[h1] at h;cases h
 |ok nk=>
  obtain⟨n,k0⟩:=nk
  rw[h1,aI] at h
  split at h
  ·cases h
  ·cases h2:Sch.rdCs n [] (l.drop k0) with
   |error e=>rw[h2] at h;cases h
   |ok sj=>
    obtain⟨s',j⟩:=sj
    rw[h2,aI] at h
    injection h with h
    injection h with hss h
    obtain⟨s2,hs2,hs3,h5,⟨rr,h6⟩,_⟩:=Sch.rdCs_ok n [] (l.drop k0) s' j h2
    have h16:n<=16:=count_le h1
    have hsl:s.length<=16:=by rw[<-hss,hs2,List.nil_append,hs3];exact h16
    have h3:k0<=l.length:=by
     unfold ba at h1
     split at h1
     ·cases h1
     ·next n' k' hn=>
      split at h1
      ·cases h1
      ·injection h1 with h1
       injection h1 with _ h1
       have:=(ig hn).1
       omega
    have h7:=congrArg List.length h6
    rw[List.length_drop,List.length_append] at h7
    exact⟨by omega,hsl⟩
theorem r7(b:L8):Sch.read b=if 1024<b.length then .error 2 else am (ge b) fun s k=>if k=b.length then .ok s else .error 5:=by
 unfold Sch.read
 split
 ·rfl
 ·unfold ge ba
  cases Sch.num b with
  |error e=>rfl
  |ok nk=>
   obtain⟨n,k⟩:=nk
   dsimp only
   by_cases h0:n=0
   ·subst h0
    rw[if_pos rfl,if_neg (by omega),aI,if_pos rfl]
    rfl
   ·rw[if_neg h0]
    by_cases h1:16<n
    ·rw[if_pos h1,if_pos h1];rfl
    ·rw[if_neg h1,if_neg h1,aI,if_neg h0]
     cases Sch.rdCs n [] (b.drop k) with
     |error e=>rfl
     |ok lj=>rfl
theorem lP(k:Int)(w:World):(Instr.typeAssert (.iface 39 (.int .i64 k)) 20 39 false).run Tryz.prog w=.ok (.int .i64 k) w:=by kernel_rfl
theorem gx(p q:Addr)(x:Value)(y:Int)(k:Int)(w:World)(hc:w.cell? p=some x)(hz:w.frozen? p=false)(hc2:w.cell? q=some (.int .i64 y))(hz2:w.frozen? q=false)(hpq:p≠q):
  CallsD Tryz.prog 104 #[.pointer (some p),.pointer (some q)] (.panicking [{ v:=.iface 39 (.int .i64 k),recovered:=false }]) w fun e u' w'=>
   e=.returned (.tuple #[])∧u'=.panicking [{ v:=.iface 39 (.int .i64 k),recovered:=true }]∧w'=((w.setCell p (.slice none 0 0)).setCell q (.int .i64 k)).drew:=by
 have hta:=lP k
 refine callsD_of_wpS Tryz.func104 rfl fun c₀ cs hu=>?_
 apply wpS_seq
 apply wpS_region
 simp[wpOpsS,go_sem,recoverD,hu,Tryz.ntmps104,Exit.thenS]
 refine wpS_of_wp ?_
 go_wp2_with fail
 go_region_law (fail)
 all_goals
  show bodyPostS Tryz.prog Tryz.f104 c₀ cs _ Exit.normal _ _ _
  simp[bodyPostS,results,Tryz.results104]
theorem mT(p q:Addr)(w:World):
  CallsD Tryz.prog 104 #[.pointer (some p),.pointer (some q)] .returning w fun e u' w'=>e=.returned (.tuple #[])∧u'=.returning∧w'=w:=by
 refine callsD_of_wpS Tryz.func104 rfl fun c₀ cs hu=>?_
 apply wpS_seq
 apply wpS_region
 simp[wpOpsS,go_sem,recoverD,hu,Tryz.ntmps104,Exit.thenS]
 refine wpS_of_wp ?_
 go_wp2_with fail
 cases c₀
 simp_all [bodyPostS,results,Tryz.results104]
theorem aX{P:Program}{fn:Func}{p q:Tmp}{ty ty2:TypeId}(h:fn.results=#[.cell p ty,.cell q ty2])(tmps:AV)(w:World)(g g2:Nat)(t:TypeId)(cs:AV)(fr:Nat×Nat)(d:TypeDesc)(x:Int)(hp:tmps.getD p undef=.pointer (some ⟨g,0,none⟩))(hg:w.1[g]?=some (.cells cs t fr))(hu:P.underlying ty=some d)(hd:(match d with | .struct _ | .array _ _=>true | _=>false)=true)(hi:(P.info? ty).map (·.size)=some cs.size)(hq:tmps.getD q undef=.pointer (some ⟨g2,0,none⟩))(hg2:w.cell? ⟨g2,0,none⟩=some (.int .i64 x))(hu2:P.underlying ty2=some (.int .i64)):
  (results fn tmps).run P w=.ok (.tuple #[.agg cs,.int .i64 x]) w:=by
 have hp':tmps[p]?.getD undef=.pointer (some ⟨g,0,none⟩):=by simpa using hp
 have hq':tmps[q]?.getD undef=.pointer (some ⟨g2,0,none⟩):=by simpa using hq
 have h1:=run_loadVar_row w g t ty cs fr d hg hu hd hi
 have h2:(loadVar ty2 ⟨g2,0,none⟩).run P w=.ok (.int .i64 x) w:=by
  simp[go_sem,isAgg,run_underlying hu2,hg2]
 simp[results,h,hp',hq',asAddr,h1,h2]
structure db(w W:World)(x:Value)(y:Int):Prop where
 b0:W.1[w.1.size]?=some (.cells #[x] 30 (0,0))
 b1:W.1[w.1.size+1]?=some (.cells #[.int .i64 y] 39 (0,0))
 size:w.1.size+3<=W.1.size
 below:Below w.1.size w W
theorem ga{w:World}{p:OA}{l:L8}{c:Nat}(hat:At w p l)(hlc:l.length<=c)(hl:l.length<=1024):db w (((w.alloc (.cells #[.slice none 0 0] 30)).alloc (.cells #[.int .i64 0] 39)).alloc (.cells #[.slice p l.length c] 154)) (.slice none 0 0) 0∧Rdr (((w.alloc (.cells #[.slice none 0 0] 30)).alloc (.cells #[.int .i64 0] 39)).alloc (.cells #[.slice p l.length c] 154)) w.1.size (w.1.size+1+1) l:=by
 have hb:Below w.1.size w (((w.alloc (.cells #[.slice none 0 0] 30)).alloc (.cells #[.int .i64 0] 39)).alloc (.cells #[.slice p l.length c] 154)):=(vY.alloc (by simp) _).alloc (by simp;omega) _
 refine⟨⟨?_,?_,by simp,hb⟩,⟨⟨p,c,?_,hat.on hb,hlc,fun hne a ha=>?_⟩,hl,by omega⟩⟩
 ·rw[aD _ _ (by simp;omega),aD _ _ (by simp)];exact ag w _
 ·rw[aD _ _ (by simp)]
  have:=ag (w.alloc (.cells #[.slice none 0 0] 30)) (.cells #[.int .i64 0] 39)
  simpa using this
 ·have:=ag ((w.alloc (.cells #[.slice none 0 0] 30)).alloc (.cells #[.int .i64 0] 39)) (.cells #[.slice p l.length c] 154)
  simpa using this
 ·obtain⟨b,o,hp,hb,_⟩:=bz hat (List.length_pos_iff.2 hne)
  rw[hp] at ha
  injection ha with ha
  subst ha
  exact hb
theorem db.step{w W W':World}{x:Value}{y:Int}(h:db w W x y)(ha:Aside (fun i=>i=w.1.size+1+1) W W'):db w W' x y:=by
 have hs:=h.size
 exact⟨by rw[ha.block _ (by omega) (by omega)];exact h.b0,by rw[ha.block _ (by omega) (by omega)];exact h.b1,Nat.le_trans hs ha.size,h.below.trans (ha.below (by omega) (fun k hk=>by omega))⟩
theorem db.setS{w W:World}{x:Value}{y:Int}(h:db w W x y)(x':Value):db w (W.setCell ⟨w.1.size,0,none⟩ x') x' y:=by
 have hs:=h.size
 have ha:Aside (fun i=>i=w.1.size) W (W.setCell ⟨w.1.size,0,none⟩ x'):=af _ _ _ _
 exact⟨by rw[ap h.b0 0];rfl,by rw[ha.block _ (by omega) (by omega)];exact h.b1,Nat.le_trans hs ha.size,h.below.trans (ha.below (by omega) (fun k hk=>by omega))⟩
theorem db.setE{w W:World}{x:Value}{y:Int}(h:db w W x y)(y':Int):db w (W.setCell ⟨w.1.size+1,0,none⟩ (.int .i64 y')) x y':=by
 have hs:=h.size
 have ha:Aside (fun i=>i=w.1.size+1) W (W.setCell ⟨w.1.size+1,0,none⟩ (.int .i64 y')):=af _ _ _ _
 exact⟨by rw[ha.block _ (by omega) (by omega)];exact h.b0,by rw[ap h.b1 0];rfl,Nat.le_trans hs ha.size,h.below.trans (ha.below (by omega) (fun k hk=>by omega))⟩
theorem db.drew{w W:World}{x:Value}{y:Int}(h:db w W x y):db w W.drew x y:=⟨h.b0,h.b1,h.size,h.below.drew⟩
theorem nC(p:OA)(l:L8)(c:Nat)(hl:l.length<=140737488351232)(hlc:l.length<=c)(w:World)(hat:At w p l):
  Calls Tryz.prog 72 #[.slice p l.length c] w (uY w (Sch.read l)):=by
 have hmf:∀(fn:Fn) (first cap:AV) (w:World),(Instr.makeFunc fn first cap).run Tryz.prog w=.ok (.func fn first cap) w:=fun _ _ _ _=>rfl
 obtain⟨r,hr⟩:∃r,r=Sch.read l:=⟨_,rfl⟩
 have HR:=vQ (hr.trans (r7 l))
 rw[<-hr]
 clear hr
 have HAt:=vQ hat
 by_cases hbig:1024<l.length
 ·have g0:(1024:Int)<(l.length:Int):=by omega
  have HR2:Hid (r=.error 2):=HR.out.trans (if_pos hbig)
  clear HR hat hbig
  go_enter_defers Tryz.func72,Tryz.ntmps72
  have HN:Hid (∀o,(w.alloc (.cells #[.slice none 0 0] 30)).1[w.1.size]?=some (.cells #[.slice none 0 0] 30 (0,0))∧((w.alloc (.cells #[.slice none 0 0] 30)).alloc o).1[w.1.size]?=some (.cells #[.slice none 0 0] 30 (0,0))∧Below w.1.size w ((w.alloc (.cells #[.slice none 0 0] 30)).alloc o)):=fun o=>⟨ag w _,by rw[aD _ _ (by simp)];exact ag w _,vY.alloc (by simp) _⟩
  go_wp2
  obtain⟨-,n1,n2⟩:=HN.out (.cells #[.int .i64 2] 39)
  refine⟨_,aX rfl _ _ w.1.size (w.1.size+1) _ #[.slice none 0 0] _ _ 2 rfl n1 Tryz.underlying30 rfl (by kernel_rfl) rfl (by simp) Tryz.underlying39,?_⟩
  rw[HR2.out]
  exact⟨rfl,n2⟩
 have g0:¬(1024:Int)<(l.length:Int):=by omega
 have HR1:Hid (r=am (ge l) fun s k=>if k=l.length then .ok s else .error 5):=HR.out.trans (if_neg hbig)
 obtain⟨W,hW⟩:∃W,W=((w.alloc (.cells #[.slice none 0 0] 30)).alloc (.cells #[.int .i64 0] 39)).alloc (.cells #[.slice p l.length c] 154):=⟨_,rfl⟩
 have HI:Hid (db w W (.slice none 0 0) 0):=by rw[hW];exact(ga hat hlc (by omega)).1
 have HRd:Hid (Rdr W w.1.size (w.1.size+1+1) l):=by rw[hW];exact(ga hat hlc (by omega)).2
 have HW:=vQ hW
 have HC:=vQ (rk l w.1.size (w.1.size+1+1) W HRd.out)
 -- a panic that goes through the door
 have HDoor:Hid (∀(er:Nat) (W2:World) (x:Value) (y:Int),r=.error er->db w W2 x y->∀(tmps:AV) (ds:List Deferred),tmps.getD 2 undef=.pointer (some ⟨w.1.size,0,none⟩)->tmps.getD 3 undef=.pointer (some ⟨w.1.size+1,0,none⟩)->ds=[{ target:=.fn (.func 104) #[.pointer (some ⟨w.1.size,0,none⟩),.pointer (some ⟨w.1.size+1,0,none⟩)],args:=#[] }]->bodyPostD Tryz.prog Tryz.f72 (uY w r) (Exit.panic (dS er)) { tmps:=tmps,defers:=ds } W2):=by
  intro er W2 x y he hI tmps ds h2 h3 hds
  subst hds
  refine leaves_cons (f:=104) (args:=#[.pointer (some ⟨w.1.size,0,none⟩),.pointer (some ⟨w.1.size+1,0,none⟩)]) (by simp) (by simp[go_sem]) ?_
  refine(gx ⟨w.1.size,0,none⟩ ⟨w.1.size+1,0,none⟩ x y er W2 (aa hI.b0 0) (ac hI.b0 0) (aa hI.b1 0) (ac hI.b1 0) (by intro hc;injection hc;omega)).mono ?_
  rintro e u' w'' ⟨rfl,rfl,rfl⟩
  have hI3:=((hI.setS (.slice none 0 0)).setE er).drew
  refine⟨_,aX rfl tmps _ w.1.size (w.1.size+1) _ #[.slice none 0 0] _ _ (er:Int) h2 hI3.b0 Tryz.underlying30 rfl (by kernel_rfl) h3 (aa hI3.b1 0) Tryz.underlying39,?_⟩
  rw[he]
  exact⟨rfl,hI3.below⟩
 obtain⟨m,hm⟩:∃m,m=ge l:=⟨_,rfl⟩
 rw[<-hm] at HR1 HC
 have HM:=vQ hm
 clear HR hW hm hat hbig
 cases m with
 |error er=>
  have HR2:Hid (r=.error er):=HR1.out
  go_enter_defers Tryz.func72,Tryz.ntmps72
  go_wp2_with fail
  rw[<-HW.out]
  refine HC.out.mono ?_
  intro e w1 hh
  obtain⟨he,ha⟩:=hh.bad
  subst he
  have HI1:=vQ (HI.out.step ha)
  clear hh ha
  go_wp2
  exact HDoor.out er w1 _ _ HR2.out HI1.out _ _ rfl rfl rfl
 |ok sk=>
  obtain⟨s,k⟩:=sk
  obtain⟨hk,hs16⟩:=rl HM.out.symm
  have HR2:Hid (r=if k=l.length then .ok s else .error 5):=HR1.out
  go_enter_defers Tryz.func72,Tryz.ntmps72
  go_wp2_with fail
  rw[<-HW.out]
  refine HC.out.mono ?_
  intro e w1 hh
  obtain⟨v,he,hv,hrd,ha⟩:=hh.good
  subst he
  have HI1:=vQ (HI.out.step ha)
  have HCs:=vQ hv
  have HRd1:=vQ hrd
  obtain⟨p1,c1,hb1,hat1,hc1,-⟩:=hrd.out
  have hsW:=HI.out.size
  have n0:w1.cell? ⟨w.1.size,0,none⟩=some (.slice none 0 0):=aa HI1.out.b0 0
  have nf0:=ac HI1.out.b0 0
  have m0:w1.cell? ⟨w.1.size+1,0,none⟩=some (.int .i64 0):=aa HI1.out.b1 0
  have mf0:=ac HI1.out.b1 0
  have r0:w1.cell? ⟨w.1.size+1+1,0,none⟩=some (.slice p1 (l.drop k).length c1):=aa hb1 0
  clear hh hv hrd ha hb1 hat1 hc1 HC HW HM HR1
  obtain⟨us,Fs,hbt⟩:=HCs.out
  obtain⟨qv,cv,rfl,-,-⟩:=hbt.cols (by omega)
  have HBt:=vQ hbt
  obtain⟨L,hL⟩:∃L,L=(l.drop k).length:=⟨_,rfl⟩
  rw[<-hL] at r0
  rw[List.length_drop] at hL
  clear hbt HCs
  by_cases hkl:k=l.length
  ·have HR3:Hid (r=.ok s):=HR2.out.trans (if_pos hkl)
   have hL0:L=0:=by omega
   subst hL0
   clear HR2 hL hkl
   go_wp2_with fail
   refine(cD _ 5 _).mono ?_
   rintro e w2 ⟨rfl,hw2⟩
   rw[hw2]
   clear hw2 w2
   go_wp2
   refine leaves_cons (f:=104) (args:=#[.pointer (some ⟨w.1.size,0,none⟩),.pointer (some ⟨w.1.size+1,0,none⟩)]) (by simp) (by simp[go_sem]) ?_
   refine(mT ⟨w.1.size,0,none⟩ ⟨w.1.size+1,0,none⟩ _).mono ?_
   rintro e u' w'' ⟨rfl,rfl,rfl⟩
   have hI3:=((HI1.out.setS (.slice qv s.length cv)).setS (.slice qv s.length cv)).setE 0
   have hA:Aside (fun i=>i=w.1.size∨i=w.1.size+1) w1 (((w1.setCell ⟨w.1.size,0,none⟩ (.slice qv s.length cv)).setCell ⟨w.1.size,0,none⟩ (.slice qv s.length cv)).setCell ⟨w.1.size+1,0,none⟩ (.int .i64 0)) :=
    (((af w1 w.1.size 0 (.slice qv s.length cv)).mono (fun _ _ h=>.inl h)).trans (af _ w.1.size 0 (.slice qv s.length cv)) (fun _ _ h=>.inl h)).trans (af _ (w.1.size+1) 0 (.int .i64 0)) (fun _ _ h=>.inr h)
   have hB:=(HBt.out.aside hA (fun g hg he=>by have:=(HBt.out.lt g hg).1;omega) (fun j hj k hk he=>by have:=(HBt.out.range j hj k hk).1;omega)).low (B':=w.1.size) (by omega)
   refine⟨_,aX rfl _ _ w.1.size (w.1.size+1) _ #[.slice qv s.length cv] _ _ 0 rfl hI3.b0 Tryz.underlying30 rfl (by kernel_rfl) rfl (aa hI3.b1 0) Tryz.underlying39,?_⟩
   rw[HR3.out]
   exact⟨_,rfl,⟨_,us,Fs,rfl,hB,by omega⟩,hI3.below⟩
  ·have HR3:Hid (r=.error 5):=HR2.out.trans (if_neg hkl)
   have gL:((L:Int)==0)=false:=aH (by omega)
   have HI2:=vQ (HI1.out.setS (.slice qv s.length cv))
   clear HR2 hkl hL
   go_wp2_with fail
   refine(cE _ 5 _).mono ?_
   rintro e w2 ⟨rfl,hw2⟩
   rw[hw2]
   clear hw2 w2
   go_wp2
   exact HDoor.out 5 _ _ _ HR3.out HI2.out _ _ rfl rfl rfl
end
end Go.Proofs.YtlgfdgdlaahpfaaGreatDoor
