import Derived.Test.YtdgacombdcajmaaGreatDoorA2
import Derived.Test.YtdgacombdcajmaaGreatDoorB38
import Derived.Test.YtdgacombdcajmaaGreatDoorW17A
set_option maxRecDepth 100000
set_option maxHeartbeats 4000000
namespace Go.Proofs.YtdgacombdcajmaaGreatDoor
section
open Go.RowKit
theorem cL{P:Program}{fn:Func}{p u:Tmp}{ty:TypeId}(h:fn.results=#[.cell p ty,.tmp u])(tmps:AV)(w:World)(g:Nat)(t:TypeId)(cs:AV)(fr:Nat×Nat)(d:TypeDesc)(hp:tmps.getD p undef=.pointer (some ⟨g,0,none⟩))(hg:w.1[g]?=some (.cells cs t fr))(hu:P.underlying ty=some d)(hd:(match d with | .struct _ | .array _ _=>true | _=>false)=true)(hi:(P.info? ty).map (·.size)=some cs.size):
  (results fn tmps).run P w=.ok (.tuple #[.agg cs,tmps.getD u undef]) w:=by
 have hp':tmps[p]?.getD undef=.pointer (some ⟨g,0,none⟩):=by simpa using hp
 have h1:=run_loadVar_row w g t ty cs fr d hg hu hd hi
 simp[results,h,hp',asAddr,h1]
def yr(w:World)(s:List Col)(e:Ending)(w':World):Prop:=∃q d,e=.returned (.tuple #[.agg #[.slice q s.length d],.int .i64 0])∧dx w' w.1.size #[.slice q s.length d] s∧Below w.1.size w w'
theorem ri(s:List Col)(p:OA)(c:Nat)(w:World)(hs:bQ w p c s)(he:Sch.err s=0)(hf:s.map Col.fix=s):Calls Tryz.prog 37 #[.agg #[.slice p s.length c]] w (yr w s):=by
 obtain⟨W,hW⟩:∃W,W=(w.alloc (.cells #[.slice p s.length c] 31)).alloc (.cells #[.slice none 0 0] 31):=⟨_,rfl⟩
 have hbW:Below w.1.size w W:=by rw[hW];exact yY.alloc (by simp) _
 have h1:W.1[w.1.size+1]?=some (.cells #[.slice none 0 0] 31 (0,0)):=by rw[hW];exact(al2 w _ _).2.1
 have hsW:W.1.size=w.1.size+2:=by rw[hW];simp
 have hEn:=iZ s p c W hs.len (hs.on hbW).cols hs.wf
 rw[show encB s=Sch.bytes s from if_pos he,he] at hEn
 have hrd:=Sch.read_put he hs.wf
 rw[hf] at hrd
 have hbl:(Sch.bytes s).length<=1024:=by
  have h2:=kM s
  rw[he] at h2
  split at h2
  ·omega
  ·split at h2
   ·omega
   ·omega
 have HE:=yQ hEn
 have HR:=yQ hrd
 have HBW:=yQ hbW
 have H1:=yQ h1
 have HsW:=yQ hsW
 have HW:=yQ hW
 obtain⟨L,hL⟩:∃L,L=Sch.bytes s:=⟨_,rfl⟩
 rw[<-hL] at HE HR hbl
 clear hs he hf hW hbW h1 hsW hEn hrd hL
 go_enter Tryz.func37,Tryz.ntmps37
 go_wp2_with fail
 rw[<-HW.out]
 refine HE.out.mono ?_
 rintro e w2 ⟨q,cap,rfl,hat,hcap,hb2⟩
 have hDc:=ly q L cap (by omega) hcap w2 hat
 rw[HR.out] at hDc
 have HD:=yQ hDc
 have HB2:=yQ hb2
 clear hDc hat hb2 HE HW
 go_wp2_with fail
 refine HD.out.mono ?_
 rintro e w3 ⟨u,rfl,hso,hb3⟩
 obtain⟨v,us,Fs,hu,hbt,hlen⟩:=hso.out
 subst hu
 obtain⟨p3,c3,hv3,-⟩:=hbt.cols hlen
 subst hv3
 have hb23:=HB2.out.trans (hb3.mono HB2.out.size)
 have h3:=(hb23.block _ (ao H1.out)).trans H1.out
 have hs2:=HB2.out.size
 have hs3:=hb3.size
 have hsW:=HsW.out
 have k3:w3.cell? ⟨w.1.size+1,0,none⟩=some (.slice none 0 0):=aa h3 0
 have f3:w3.frozen? ⟨w.1.size+1,0,none⟩=false:=by simp[World.frozen?,h3]
 have h4:(w3.setCell ⟨w.1.size+1,0,none⟩ (.slice p3 s.length c3)).1[w.1.size+1]?=some (.cells #[.slice p3 s.length c3] 31 (0,0)):=al h3 0 _
 have ha:Aside (fun i=>i=w.1.size+1) w3 (w3.setCell ⟨w.1.size+1,0,none⟩ (.slice p3 s.length c3)):=ai _ _ _ _
 have hbt2:=hbt.aside ha (fun g hg hc=>by have:=(hbt.lt g hg).1;omega) (fun j hj k hk hc=>by have:=(hbt.range j hj k hk).1;omega)
 have HZ:Hid (dx (w3.setCell ⟨w.1.size+1,0,none⟩ (.slice p3 s.length c3)) w.1.size #[.slice p3 s.length c3] s∧Below w.1.size w (w3.setCell ⟨w.1.size+1,0,none⟩ (.slice p3 s.length c3))) :=
  ⟨⟨_,us,Fs,rfl,hbt2.low (by omega),hlen⟩,(HBW.out.trans (hb23.mono HBW.out.size)).trans (ha.below (by omega) (fun k hk hc=>by omega))⟩
 have H4:=yQ h4
 clear hso hbt hbt2 hlen hb3 hb23 h3 h4 ha hs2 hs3 hsW HD
 go_wp2
 refine bodyPost_ret (cL rfl _ _ (w.1.size+1) _ _ _ _ rfl H4.out Tryz.underlying31 rfl (by kernel_rfl)) rfl ?_
 exact⟨p3,c3,rfl,HZ.out.1,HZ.out.2⟩
theorem vZ(n:Int)(h:0<=n∧n<2147483648)(w:World):Calls Tryz.prog 38 #[.int .i64 n] w fun e w'=>e=.returned (.bool true)∧w'=w:=by
 have h1:=h.1
 have h2:=h.2
 clear h
 go_enter Tryz.func38,Tryz.ntmps38
 go_wp2
 go_ret
 exact⟨rfl,rfl⟩
structure Slv(w:World)(B a M gs n:Nat)(v:Value)(g:Int->Option Value)(s:Int->Option (List Col))(d:Sp):Prop where
 lies:w.1[a]?=some (.cells #[.map (some M),.pointer (some ⟨gs,0,none⟩)] 102 (0,0))
 map:KM w M n g
 spl:Spl w B gs v d
 sees:∀m,match s m with
  |none=>g m=none
  |some c=>∃p d,g m=some (.agg #[.slice p c.length d])∧dY (fun i=>i=gs∨v.ownBlock=some i) w (fun w=>bQ w p d c)
 low:B<=a∧B<=M
structure N17(w wr:World)(B a M gs r Mu nu n cnt:Nat)(v:Value)(gu g:Int->Option Value)(s:Int->Option (List Col))(ns:List Int):Prop where
 lies:wr.1[a]?=some (.cells #[.map (some M),.pointer (some ⟨gs,0,none⟩)] 102 (0,0))
 rng:RM wr Mu r nu gu ns cnt
 map:KM wr M n g
 spl:Spl wr B gs v Sp.start
 few:n<=ns.length
 room:cnt+ns.length<=nu
 sees:∀m,(m∈ns->∃c p d,s m=some c∧g m=some (.agg #[.slice p c.length d])∧dY (fun i=>i=M∨i=r∨i=gs∨v.ownBlock=some i) wr (fun w=>bQ w p d c))∧(m∉ns->g m=none)
 below:Below w.1.size w wr
 off:M≠Mu∧M≠r∧r≠a∧w.1.size<=M∧w.1.size<=r∧a<r∧M<r∧gs<r∧(∀i,v.ownBlock=some i->i<r)
section
variable {w wr w5 w7 W8 wm:World} {B a M gs r Mu nu n cnt cn1:Nat} {v:Value} {gu g:Int->Option Value} {s:Int->Option (List Col)} {ns:List Int}
theorem N17.more(h:N17 w wr B a M gs r Mu nu n cnt v gu g s ns){m:Int}{c:List Col}{q:OA}{d:Nat}(ha:Aside (fun k=>k=r) wr w5)(hr:RM w5 Mu r nu gu (ns++[m]) cn1)(hlt:cn1<cnt)(hnm:m∉ns)(hs:s m=some c)(hwf:∀x∈c,x.wf)(hb7:Below w5.1.size w5 w7){Z:Nat}(hZ:w5.1.size<=Z)(hso:dx w7 Z #[.slice q c.length d] c)(hb8:Below w7.1.size w7 W8)(hk:KM wm M (n+1) (fun k=>if k=m then some (.agg #[.slice q c.length d]) else g k))(ham:Aside (fun k=>k=M) W8 wm):
  N17 w wm B a M gs r Mu nu (n+1) cn1 v gu (fun k=>if k=m then some (.agg #[.slice q c.length d]) else g k) s (ns++[m]):=by
 obtain⟨o1,o2,o3,o4,o5,o6,o7,o8,o9⟩:=h.off
 have hal:=ao h.lies
 have hb58:=hb7.trans (hb8.mono hb7.size)
 have hrl:=hr.lt.1
 have hal5:=ha.size
 have haM:a≠M:=fun hc=>h.map.off h.lies hc
 have hG:Aside (fun i=>i=M∨i=r) wr wm:=(((ha.mono (fun i _ hi=>.inr hi)).trans (ag hb58 (fun _=>False)) (fun _ _ hc=>hc.elim))).trans (ham.mono (fun i _ hi=>.inl hi)) (fun _ _ hc=>hc)
 have hA:Aside (fun i=>i=M∨i=r∨i=gs∨v.ownBlock=some i) wr wm:=hG.mono (fun i _ hi=>hi.elim .inl (fun hr=>.inr (.inl hr)))
 have h5:w5.1[a]?=_:=(ha.block a hal (fun hc=>by omega)).trans h.lies
 have h8:=(hb58.block a (ao h5)).trans h5
 refine⟨(ham.block a (ao h8) haM).trans h8,(hr.on hb58).aside ham (fun hc=>o1 hc.symm) (fun hc=>o2 hc.symm),hk,?_,?_,?_,fun z=>⟨fun hz=>?_,fun hz=>?_⟩,?_,h.off⟩
 ·refine h.spl.aside hG (fun hc=>hc.elim (h.map.off h.spl.lies) (fun hr=>by omega)) (fun i hi hc=>hc.elim (fun hM=>?_) (fun hr=>by have:=o9 i hi;omega))
  obtain⟨C,hC⟩:=ey h.spl.held hi
  exact h.map.off hC hM
 ·have:=h.few;simp;omega
 ·have:=h.room;simp;omega
 ·rcases List.mem_append.1 hz with hz | hz
  ·obtain⟨c',p',d',e1,e2,e3⟩:=(h.sees z).1 hz
   refine⟨c',p',d',e1,?_,e3.step hA (fun _ hk=>.inl hk)⟩
   rw[if_neg (fun e:z=m=>hnm (by rw[<-e];exact hz))]
   exact e2
  ·rw[List.mem_singleton.1 hz,if_pos rfl]
   have hlt5:∀k,(k=M∨k=r∨k=gs∨v.ownBlock=some k)->k<Z:=fun k hk=>by
    rcases hk with hk | hk | hk | hk
    ·omega
    ·omega
    ·omega
    ·have:=o9 k hk;omega
   exact⟨c,q,d,hs,rfl,(kn hso hwf (fun k hk=>.inl (hlt5 k hk))).step ((ag hb8 _).trans (ham.mono (fun i _ hi=>.inl hi)) (fun _ _ hc=>hc)) (fun _ hk=>.inl hk)⟩
 ·rw[List.mem_append,not_or,List.mem_singleton] at hz
  rw[if_neg hz.2]
  exact(h.sees z).2 hz.1
 ·exact h.below.trans (hG.below h.below.size (fun k hk hc=>by omega))
end
theorem rT{l:List (Int×List Col)}(h:l.Pairwise (fun a b=>a.1<b.1))(m:Int)(c:List Col):Sv.sure l m=some c↔(m,c)∈l:=⟨Sv.sure_mem,fun hm=>Sv.sure_unlike (h.imp fun {a b} hab=>by omega) hm⟩
def yj(w:World)(s:Int->Option (List Col))(e:Ending)(w':World):Prop:=∃a M gs n v g,e=.returned (.pointer (some ⟨a,0,none⟩))∧Slv w' w.1.size a M gs n v g s Sp.start∧Below w.1.size w w'
theorem wu(l:List (Int×List Col))(q:OA)(c:Nat)(w:World)(hl:l.length<=1000000)(hS:jP w q l)(hg:∀p∈l,Sv.good p):Calls Tryz.prog 16 #[.slice q l.length c] w (yj w (Sv.sure l)):=by
  have HN:=yQ (xE (w.alloc (.map #[] 0)))
  have HS:=yQ hS
  have HG:=yQ hg
  have hmm:=@run_makeMap Tryz.prog
  clear hS hg
  go_enter Tryz.func16,Tryz.ntmps16
  go_wp2_with fail
  refine HN.out.mono ?_
  rintro e w1 ⟨gs,v,rfl,hsp,hb1⟩
  have hbw1:Below w.1.size w w1:=((Below.refl w.1.size w).alloc yX (.map #[] 0)).trans (hb1.mono (by simp))
  have hkm1:=(po w).on hb1
  obtain⟨w2,hw2⟩:∃W,W=w1.alloc (.cells #[.map (some w.1.size),.pointer (some ⟨gs,0,none⟩)] 102):=⟨_,rfl⟩
  have hb12:Below w1.1.size w1 w2:=by rw[hw2];exact yY
  have h2:w2.1[w1.1.size]?=some (.cells #[.map (some w.1.size),.pointer (some ⟨gs,0,none⟩)] 102 (0,0)):=by rw[hw2];exact an w1 _
  have hbw2:=hbw1.trans (hb12.mono hbw1.size)
  have HU:=yQ (jc l q c w w2 hl hbw2 HS.out (fun p hp=>by have:=(HG.out p hp).1;exact⟨by omega,by omega⟩))
  have HK2:=yQ (hkm1.on hb12)
  have HSp:=yQ (hsp.on hb12)
  have H2:=yQ h2
  have HB2:=yQ hbw2
  have Hs:Hid (w.1.size<w1.1.size∧gs<w1.1.size∧(∀i,v.ownBlock=some i->i<w1.1.size)∧w1.1.size<w2.1.size):=⟨by have:=hb1.size;simp at this;omega,hsp.lt,fun i hi=>(hsp.held.lt i hi).2,ao h2⟩
  have HW2:=yQ hw2
  clear hsp hb1 hbw1 hkm1 hb12 h2 hbw2 hw2 HN
  go_wp2_with fail
  rw[<-HW2.out]
  clear HW2
  refine HU.out.mono ?_
  rintro e w3 ⟨Mu,nu,gu,rfl,hku,hnu,hMu,hse,hb3⟩
  have HKu:=yQ hku
  have HSe:=yQ hse
  have HB3:=yQ hb3
  clear hku hse hb3 HU
  go_wp2_with (first | (at_range;refine i6 HKu.out rfl rfl rfl ?_;intro w4 cnt hcn hrm hb4 hsz4) | fail)
  go_frame
  have hb24:=HB3.out.trans (hb4.mono HB3.out.size)
  have hs3:=HB3.out.size
  have HN0:Hid (N17 w w4 (w.1.size+1) w1.1.size w.1.size gs w3.1.size Mu nu 0 cnt v gu (fun _=>none) (Sv.sure l) []) :=
    ⟨(hb24.block _ (ao H2.out)).trans H2.out,hrm,HK2.out.on hb24,by have:=HSp.out.on hb24;simpa using this,by simp,by simpa using hcn,fun m=>⟨by simp,fun _=>rfl⟩,HB2.out.trans (hb24.mono HB2.out.size),by
      obtain⟨s1,s2,s3,s4⟩:=Hs.out
      exact⟨by omega,by omega,by omega,by omega,by omega,by omega,by omega,by omega,fun i hi=>by have:=s3 i hi;omega⟩⟩
  clear hcn hrm hb4 hsz4 hb24 hs3
  go_loopw [] (fun wr=>∃(n cn:Nat) (g:Int->Option Value) (ns:List Int),Hid (N17 w wr (w.1.size+1) w1.1.size w.1.size gs w3.1.size Mu nu n cn v gu g (Sv.sure l) ns)) (fun wr=>wr.rangeLeft Mu w3.1.size)
  case atStart=>exact⟨0,cnt,_,[],HN0⟩
  case round=>
    obtain⟨n,cn,g,ns,HR⟩:=hrel
    clear HN0
    go_wp2_with (first
      | (at_next;refine kj HR.out.rng rfl rfl rfl ?_ ?_;(intro hall);(have HAl:=yQ hall);(clear hall);rotate_left;(intro m cv w5 cn1 hmi hgm hnm hrm1 hlt ha1 hs1 hen);(obtain⟨cc,p,d,hsm,hce,hsl⟩:=gY HSe.out hgm);subst hce;(have hgd:=HG.out _ (Sv.sure_mem hsm));(have hb5:Below w.1.size w w5:=HR.out.below.trans (ha1.below HR.out.below.size (fun k hk hc=>by have:=HR.out.off.2.2.2.2.1;omega)));(have HC:=yQ (ri cc p d (w5.alloc (.cells #[.slice p cc.length d] 31)) (hsl.on (hb5.alloc hb5.size _)) hgd.2.1 hgd.2.2.1));(have HX:=yQ (And.intro hmi (And.intro hnm (And.intro hrm1 (And.intro hlt (And.intro ha1 (And.intro hsm hgd)))))));(clear hmi hgm hnm hrm1 hlt ha1 hsm hsl hs1 hgd hb5))
      | (go_at_call 37;refine HC.out.mono ?_;(rintro e w7 ⟨q7,d7,rfl,hso,hb7⟩);(have HSo:=yQ hso);(have HB7:=yQ hb7);(have HSm:=yQ (vZ m HX.out.2.2.2.2.2.2.1));(clear hso hb7))
      | (go_at_call 38;refine(HSm.out _).mono ?_;(rintro e w' ⟨rfl,hw'⟩);(rw[hw']);(clear hw'))
      |fail)
    · obtain⟨o1,o2,o3,o4,o5,o6,o7,o8,o9⟩:=HR.out.off
      have hb57:Below w5.1.size w5 w7:=((Below.refl w5.1.size w5).alloc yX (.cells #[.slice p cc.length d] 31)).trans (HB7.out.mono (by simp))
      obtain⟨W8,hW8⟩:∃W,W=w7.alloc (.cells #[.slice q7 cc.length d7] 31):=⟨_,rfl⟩
      have hb78:Below w7.1.size w7 W8:=by rw[hW8];exact yY
      have hb58:=hb57.trans (hb78.mono hb57.size)
      have hl5:=(HX.out.2.2.2.2.1.block _ (ao HR.out.lies) (fun hc=>by omega)).trans HR.out.lies
      have hl8:=(hb58.block _ (ao hl5)).trans hl5
      have y0:W8.cell? ⟨w1.1.size,0,none⟩=some (.map (some w.1.size)):=aa hl8 0
      have y1:W8.cell? ⟨w7.1.size,0,none⟩=some (.slice q7 cc.length d7):=aa (show W8.1[w7.1.size]?=some (.cells #[.slice q7 cc.length d7] 31 (0,0)) by rw[hW8];exact an w7 _) 0
      have HK8:=yQ ((HR.out.map.aside HX.out.2.2.2.2.1 o2).on hb58)
      have hfew:=HR.out.few
      have hroom:=HR.out.room
      have HL8:=yQ (ao hl8)
      have HL7:Hid (w7.1.size<W8.1.size):=by show _<_;rw[hW8];simp
      have hsz5:w5.1.size<=w7.1.size:=hb57.size
      have hr5:=HX.out.2.2.1.lt.1
      have HO:=yQ (And.intro (show ¬w1.1.size=w.1.size by have:=Hs.out.1;omega) (show ¬w7.1.size=w.1.size by omega))
      have HB57:=yQ hb57
      have HB78:=yQ hb78
      rw[<-hW8]
      clear hW8 hb57 hb78 hb58 hl5 hl8 o1 o2 o3 o4 o5 o6 o7 o8 o9 hsz5 hr5 hen
      obtain⟨wm,hrn,hkm,ham,-⟩:=(show KM W8.drew w.1.size n g from ⟨HK8.out.out⟩).put HX.out.1 (by omega) (.agg #[.slice q7 cc.length d7])
      have t0:=(ham.cell (p:=⟨w1.1.size,0,none⟩) HL8.out HO.out.1).trans y0
      have t1:=(ham.cell (p:=⟨w7.1.size,0,none⟩) HL7.out HO.out.2).trans y1
      have HNx:=yQ (HR.out.more HX.out.2.2.2.2.1 HX.out.2.2.1 HX.out.2.2.2.1 HX.out.2.1 HX.out.2.2.2.2.2.1 HX.out.2.2.2.2.2.2.2.2.2 HB57.out (by simp) HSo.out HB78.out hkm ⟨ham.os,ham.tape,ham.output,ham.size,ham.block⟩)
      clear hkm ham
      go_region_held3 (fun w'=>w'.cell? ⟨w1.1.size,0,none⟩=some (.map (some w.1.size))∧w'.cell? ⟨w7.1.size,0,none⟩=some (.slice q7 cc.length d7)) (go_keep) (first | fail)
      go_wp2_with fail
      exact⟨⟨_,_,_,_,HNx⟩,by rw[HNx.out.rng.left,HR.out.rng.left];exact HX.out.2.2.2.1⟩
    · go_ret
      have hfin:Slv wr w.1.size w1.1.size w.1.size gs n v g (Sv.sure l) Sp.start:=by
        refine⟨HR.out.lies,HR.out.map,⟨HR.out.spl.lies,HR.out.spl.held.low (by omega),by have:=HR.out.spl.base;omega⟩,fun m=>?_,by have:=Hs.out.1;omega,yX⟩
        have hsm:=HR.out.sees m
        have hse:=HSe.out m
        cases hm:Sv.sure l m with
        |none=>
          refine hsm.2 (fun hc=>?_)
          obtain⟨c',_,_,e1,_⟩:=hsm.1 hc
          rw[hm] at e1
          cases e1
        |some c0=>
          rw[hm] at hse
          obtain⟨p0,d0,e0,_⟩:=hse
          obtain⟨c',p',d',e1,e2,e3⟩:=hsm.1 (HAl.out m _ e0)
          rw[hm] at e1
          injection e1 with e1
          subst e1
          exact⟨p',d',e2,e3.step (Aside.refl _ _) (fun k hk=>.inl (.inr (.inr hk)))⟩
      exact⟨_,_,gs,n,v,g,rfl,hfin,HR.out.below⟩
end
section
open Go.RowKit
def lN(a b c d:Int)(p:OA)(n m:Nat):AV:=#[.int .i64 a,.int .i64 b,.int .i64 c,.int .i64 d,.slice p n m]
def pi(W:World)(g:Nat)(c0 c1 c2 c3 c4:Value):World:=((((W.setCell ⟨g,0,none⟩ c0).setCell ⟨g,1,none⟩ c1).setCell ⟨g,2,none⟩ c2).setCell ⟨g,3,none⟩ c3).setCell ⟨g,4,none⟩ c4
section
variable {W:World} {g:Nat} {T:TypeId} {a0 a1 a2 a3 a4 c0 c1 c2 c3 c4:Value}
theorem dq(h:W.1[g]?=some (.cells #[a0,a1,a2,a3,a4] T (0,0))):(pi W g c0 c1 c2 c3 c4).1[g]?=some (.cells #[c0,c1,c2,c3,c4] T (0,0)):=by
 unfold pi
 rw[al (al (al (al (al h 0 _) 1 _) 2 _) 3 _) 4 _]
 rfl
theorem cN:Aside (fun j=>j=g) W (pi W g c0 c1 c2 c3 c4):=by
 unfold pi
 have h0:Aside (fun j=>j=g) W (W.setCell ⟨g,0,none⟩ c0):=(Aside.refl (fun j=>j=g) W).setCell (p:=⟨g,0,none⟩) (.inl rfl) _
 exact(((h0.setCell (p:=⟨g,1,none⟩) (.inl rfl) c1).setCell (p:=⟨g,2,none⟩) (.inl rfl) c2).setCell (p:=⟨g,3,none⟩) (.inl rfl) c3).setCell (p:=⟨g,4,none⟩) (.inl rfl) c4
theorem m8(h:W.1[g]?=some (.cells #[a0,a1,a2,a3,a4] T (0,0))):(W.cell? ⟨g,0,none⟩=some a0∧W.cell? ⟨g,1,none⟩=some a1∧W.cell? ⟨g,2,none⟩=some a2∧W.cell? ⟨g,3,none⟩=some a3∧W.cell? ⟨g,4,none⟩=some a4)∧W.frozen? ⟨g,0,none⟩=false∧W.frozen? ⟨g,1,none⟩=false∧W.frozen? ⟨g,2,none⟩=false∧W.frozen? ⟨g,3,none⟩=false∧W.frozen? ⟨g,4,none⟩=false :=
 ⟨⟨aa h 0,aa h 1,aa h 2,aa h 3,aa h 4⟩,by simp[World.frozen?,h],by simp[World.frozen?,h],by simp[World.frozen?,h],by simp[World.frozen?,h],by simp[World.frozen?,h]⟩
end
theorem tH{s:Int->Option (List Col)}{k:Nat}{ls:L8}{f:Fr}(hd:Fr.dec ls=.ok f)(hk:¬f.kind=2):Sv.bat1 s (k,ls)=none:=by
 unfold Sv.bat1 Sv.saved
 simp only[hd]
 rw[if_neg hk]
theorem ry{s:Int->Option (List Col)}{k:Nat}{ls:L8}{f:Fr}(hd:Fr.dec ls=.ok f)(hk:f.kind=2)(hs:s f.number=none):Sv.bat1 s (k,ls)=none:=by
 unfold Sv.bat1 Sv.saved
 simp only[hd]
 rw[if_pos hk,hs]
theorem rm{s:Int->Option (List Col)}{k:Nat}{ls:L8}{f:Fr}{c:List Col}(hd:Fr.dec ls=.ok f)(hk:f.kind=2)(hs:s f.number=some c):Sv.bat1 s (k,ls)=(match Bt.unpack c f.block f.rows with | .error _=>none | .ok l=>some ⟨k,f.number,f.seq,f.first,l⟩):=by
 unfold Sv.bat1 Sv.saved
 simp only[hd]
 rw[if_pos hk,hs]
 dsimp only
 cases Bt.unpack c f.block f.rows <;> rfl
def yt(w:World)(o:Option Bat)(e:Ending)(w':World):Prop:=match o with
 |none=>e=.returned (.tuple #[.agg (lN 0 0 0 0 none 0 0),.bool false])∧Below w.1.size w w'
 |some x=>∃rp rc,e=.returned (.tuple #[.agg (lN x.at_ x.number x.seq x.first rp x.rows.length rc),.bool true])∧bL w' w.1.size (.slice rp x.rows.length rc) x.rows∧Below w.1.size w w'
theorem tF(w:World)(a M gs n:Nat)(g:Int->Option Value)(s:Int->Option (List Col))(k:Nat)(ls:L8)(pr:OA)(cr:Nat)(hl:w.1[a]?=some (.cells #[.map (some M),.pointer (some ⟨gs,0,none⟩)] 102 (0,0)))(hm:KM w M n g)(hs:eR w s g)(hv:Hv w)(hat:At w pr ls)(hlen:ls.length<=2200)(hcr:ls.length<=cr):
  Calls Tryz.prog 40 #[.pointer (some ⟨a,0,none⟩),.agg #[.int .i64 (k:Int),.slice pr ls.length cr]] w (yt w (Sv.bat1 s (k,ls))):=by
 obtain⟨W0,hW0⟩:∃W,W=(w.alloc (.cells #[.int .i64 (k:Int),.slice pr ls.length cr] 84)).alloc (.cells #[.int .i64 0,.int .i64 0,.int .i64 0,.int .i64 0,.slice none 0 0] 41):=⟨_,rfl⟩
 obtain⟨k0,k1,hb0,hsz0⟩:=al2 w (.cells #[.int .i64 (k:Int),.slice pr ls.length cr] 84) (.cells #[.int .i64 0,.int .i64 0,.int .i64 0,.int .i64 0,.slice none 0 0] 41)
 rw[<-hW0] at k0 k1 hb0 hsz0
 have HD:=yQ (lz pr cr ls (by omega) hcr W0 (hv.next hb0) (hat.on hb0))
 have HK0:=yQ k0
 have HK1:=yQ k1
 have HB0:=yQ hb0
 have HZ0:=yQ hsz0
 have HL:=yQ hl
 have HM:=yQ hm
 have HS:=yQ hs
 have HW0:=yQ hW0
 clear hl hm hs hv hat hcr k0 k1 hb0 hsz0 hW0
 go_enter Tryz.func40,Tryz.ntmps40
 go_wp2_with fail
 rw[<-HW0.out]
 clear HW0
 refine HD.out.mono ?_
 clear HD
 cases hd:Fr.dec ls with
 |error er=>
  rintro e w1 ⟨rfl,hb1⟩
  have hne:=nf hd
  have g1:((er:Int) != 0)=true:=aT (by omega)
  have HE:Hid (Sv.bat1 s (k,ls)=none):=by show _=_;unfold Sv.bat1;rw[show(k,ls).2=ls from rfl,hd]
  obtain⟨X,hX⟩:∃X,X=w1.alloc (.cells #[.int .i64 0,.int .i64 0,.slice none 0 0,.int .i64 0,.int .i64 0,.int .i64 0,.slice none 0 0,.int .i64 0,.int .i64 0,.int .i64 0,.slice none 0 0] 36):=⟨_,rfl⟩
  have hbX:Below W0.1.size W0 X:=by rw[hX];exact hb1.alloc hb1.size _
  have hkX:=(hbX.block _ (ao HK1.out)).trans HK1.out
  have HBX:=yQ (HB0.out.trans (hbX.mono HB0.out.size))
  have HKX:=yQ hkX
  obtain⟨⟨x0,x1,x2,x3,x4⟩,f0,f1,f2,f3,f4⟩:=m8 hkX
  have HX:=yQ hX
  rw[hX] at x0 x1 x2 x3 x4 f0 f1 f2 f3 f4
  clear hd hne hX hbX hkX hb1
  go_wp2
  rw[<-HX.out]
  refine bodyPost_ret (cL rfl _ _ (w.1.size+1) _ _ _ _ rfl (dq HKX.out) Tryz.underlying41 rfl (by kernel_rfl)) rfl ?_
  rw[HE.out]
  exact⟨rfl,HBX.out.trans (cN.below HBX.out.size (fun k hk hc=>by omega))⟩
 |ok f=>
  rintro e w1 ⟨u,rfl,hfo,hb1⟩
  have hfl:=hfo.lies
  obtain⟨sp,sc,bp,bc,ep,ec,hu,-,-,-,hbl,hbc,hba,-⟩:=hfl.out
  subst hu
  unfold aI
  obtain⟨X,hX⟩:∃X,X=w1.alloc (.cells #[.int .i64 f.kind,.int .i64 f.number,.slice sp f.cols.length sc,.int .i64 f.seq,.int .i64 f.first,.int .i64 f.rows,.slice bp f.block.length bc,.int .i64 f.index.at_,.int .i64 f.index.frames,.int .i64 f.index.rows,.slice ep f.index.entries.length ec] 36):=⟨_,rfl⟩
  have hbX1:Below w1.1.size w1 X:=by rw[hX];exact yY
  have hkF:X.1[w1.1.size]?=some (.cells #[.int .i64 f.kind,.int .i64 f.number,.slice sp f.cols.length sc,.int .i64 f.seq,.int .i64 f.first,.int .i64 f.rows,.slice bp f.block.length bc,.int .i64 f.index.at_,.int .i64 f.index.frames,.int .i64 f.index.rows,.slice ep f.index.entries.length ec] 36 (0,0)):=by rw[hX];exact an w1 _
  have hbX:Below W0.1.size W0 X:=hb1.trans (hbX1.mono hb1.size)
  have hkX:=(hbX.block _ (ao HK1.out)).trans HK1.out
  have HBX:=yQ (HB0.out.trans (hbX.mono HB0.out.size))
  have HKX:=yQ hkX
  have HKF:=yQ hkF
  have HKR:=yQ ((hbX.block _ (ao HK0.out)).trans HK0.out)
  have HX:=yQ hX
  have HBlk:=yQ (And.intro hbl (And.intro hbc (hba.on hbX1)))
  by_cases hk:f.kind=2
  ·have g2:(f.kind != 2)=false:=bd hk
   have hi:Fr.i64 f.number:=(Fr.dec_ok hd).2.2.2.1.2.1
   have hlX:=(HBX.out.block _ (ao HL.out)).trans HL.out
   have z0:X.cell? ⟨a,0,none⟩=some (.map (some M)):=aa hlX 0
   have z1:X.cell? ⟨w1.1.size,1,none⟩=some (.int .i64 f.number):=aa hkF 1
   have HKm:=yQ (HM.out.on HBX.out)
   have HDk:=yQ (And.intro hd hk)
   have hlt:a<X.1.size:=ao hlX
   clear hd hk hX hbX hbX1 hkX hkF hb1 hfo hfl hbl hbc hba hlX
   go_wp2_with fail
   rw[<-HX.out]
   clear HX
   obtain⟨lp,ln,lc,kb,hgv,hgs⟩:∃lp ln lc kb,(g f.number).getD dZ=.agg #[.slice lp ln lc]∧(g f.number).isSome=kb:=by
    cases hg:g f.number with
    |none=>exact⟨none,0,0,false,rfl,rfl⟩
    |some v=>
     obtain⟨c,p,d,_,rfl,_⟩:=gY HS.out hg
     exact⟨p,_,d,true,rfl,rfl⟩
   have hl0:=(show KM X.drew M n g from ⟨HKm.out.out⟩).look hi
   have hl1:=(show KM (X.alloc (.cells #[.slice none 0 0] 31)).drew M n g from ⟨(HKm.out.on yY).out⟩).look hi
   rw[hgv,hgs] at hl0 hl1
   have HGv:=yQ (And.intro hgv hgs)
   clear hgv hgs
   go_cut [8,9] from 25 (fun v8 v9 wx=>v8=.pointer (some ⟨X.1.size,0,none⟩)∧v9=.bool kb∧Hid (Below X.1.size X wx∧wx.1[X.1.size]?=some (.cells #[.slice lp ln lc] 31 (0,0))))
   case first=>
    go_region_held3 (fun w'=>w'.cell? ⟨a,0,none⟩=some (.map (some M))∧w'.cell? ⟨w1.1.size,1,none⟩=some (.int .i64 f.number)) (go_keep) (first | fail)
    all_goals (try go_wp2_with fail)
    all_goals go_meet
    all_goals exact⟨rfl,rfl,yY.drew,an X _⟩
   case rest=>
    obtain⟨rfl,rfl,HC⟩:=hcut
    have hkc:=(HC.out.1.block _ (ao HKX.out)).trans HKX.out
    have HBc:=yQ (HBX.out.trans (HC.out.1.mono HBX.out.size))
    obtain⟨⟨x0,x1,x2,x3,x4⟩,f0,f1,f2,f3,f4⟩:=m8 hkc
    have HKc:=yQ hkc
    clear hkc hl0 hl1 z0 z1
    cases hs:s f.number with
    |none=>
     have hg0:g f.number=none:=by have:=HS.out f.number;rw[hs] at this;exact this
     have hkb:kb=false:=by have:=HGv.out.2;rw[hg0] at this;exact this.symm
     subst hkb
     have HE:=yQ (ry (k:=k) HDk.out.1 HDk.out.2 hs)
     clear hs hg0
     go_wp2
     refine bodyPost_ret (cL rfl _ _ (w.1.size+1) _ _ _ _ rfl (dq HKc.out) Tryz.underlying41 rfl (by kernel_rfl)) rfl ?_
     rw[HE.out]
     exact⟨rfl,HBc.out.trans (cN.below HBc.out.size (fun k hk hc=>by omega))⟩
    |some c=>
     obtain⟨p,d,hg1,hsl⟩:∃p d,g f.number=some (.agg #[.slice p c.length d])∧bQ w p d c:=by have:=HS.out f.number;rw[hs] at this;exact this
     have hkb:kb=true:=by have:=HGv.out.2;rw[hg1] at this;exact this.symm
     have hgv:=HGv.out.1
     rw[hg1] at hgv
     injection hgv with hgv
     simp only[Array.mk.injEq,List.cons.injEq,and_true,Value.slice.injEq] at hgv
     obtain⟨rfl,rfl,rfl⟩:=hgv
     subst hkb
     have HE:=yQ (rm (k:=k) HDk.out.1 HDk.out.2 hs)
     have hkf:=(HC.out.1.block _ (ao HKF.out)).trans HKF.out
     have y1:=aa hkf 1
     have y3:=aa hkf 3
     have y4:=aa hkf 4
     have y5:=aa hkf 5
     have y6:=aa hkf 6
     have q0:=aa HC.out.2 0
     have HU:=yQ (rO uw c p d f.block bp bc f.rows wc (hsl.on HBc.out) HBlk.out.1 HBlk.out.2.1 (HBlk.out.2.2.on HC.out.1))
     have HKf:=yQ hkf
     clear hs hg1 hsl hkf x0 x1 x2 x3 x4 f0 f1 f2 f3 f4
     go_wp2_with fail
     refine HU.out.mono ?_
     clear HU y1 y3 y4 y5 y6 q0
     cases hun:Bt.unpack c f.block f.rows with
     |error er=>
      rintro e w2 ⟨rfl,hb2⟩
      have hne:=Bt.unpack_err hun
      have g3:((er:Int) != 0)=true:=aT (by omega)
      rw[hun] at HE
      have hk2:=(hb2.block _ (ao HKc.out)).trans HKc.out
      obtain⟨⟨x0,x1,x2,x3,x4⟩,f0,f1,f2,f3,f4⟩:=m8 hk2
      have HK2:=yQ hk2
      have HB2:=yQ (HBc.out.trans (hb2.mono HBc.out.size))
      clear hk2 hb2 hun hne
      go_wp2
      refine bodyPost_ret (cL rfl _ _ (w.1.size+1) _ _ _ _ rfl (dq HK2.out) Tryz.underlying41 rfl (by kernel_rfl)) rfl ?_
      rw[HE.out]
      exact⟨rfl,HB2.out.trans (cN.below HB2.out.size (fun k hk hc=>by omega))⟩
     |ok l=>
      rintro e w2 ⟨rq,rc,rfl,hrb,hb2⟩
      rw[hun] at HE
      have hk2:=(hb2.block _ (ao HKc.out)).trans HKc.out
      obtain⟨⟨x0,x1,x2,x3,x4⟩,f0,f1,f2,f3,f4⟩:=m8 hk2
      have hkf:=(hb2.block _ (ao HKf.out)).trans HKf.out
      have y1:=aa hkf 1
      have y3:=aa hkf 3
      have y4:=aa hkf 4
      have hr0:w2.1[w.1.size]?=some (.cells #[.int .i64 (k:Int),.slice pr ls.length cr] 84 (0,0)):=(hb2.block _ (Nat.lt_of_lt_of_le (ao HKR.out) HC.out.1.size)).trans ((HC.out.1.block _ (ao HKR.out)).trans HKR.out)
      have r0:=aa hr0 0
      have HK2:=yQ hk2
      have HB2:=yQ (HBc.out.trans (hb2.mono HBc.out.size))
      have HRb:=yQ hrb
      have hwl:w.1.size+1<wc.1.size:=ao HKc.out
      clear hk2 hb2 hun hrb hkf hr0
      go_wp2
      refine bodyPost_ret (cL rfl _ _ (w.1.size+1) _ _ _ _ rfl (dq HK2.out) Tryz.underlying41 rfl (by kernel_rfl)) rfl ?_
      rw[HE.out]
      exact⟨rq,rc,rfl,(HRb.out.aside cN (fun k h1 h2 hc=>by omega)).lower (by omega),HB2.out.trans (cN.below HB2.out.size (fun k hk hc=>by omega))⟩
  ·have g2:(f.kind != 2)=true:=aT hk
   have HE:=yQ (tH (s:=s) (k:=k) hd hk)
   obtain⟨⟨x0,x1,x2,x3,x4⟩,f0,f1,f2,f3,f4⟩:=m8 hkX
   rw[hX] at x0 x1 x2 x3 x4 f0 f1 f2 f3 f4
   clear hd hk hX hbX hbX1 hkX hkF hb1 hfo hfl hbl hbc hba
   go_wp2
   rw[<-HX.out]
   refine bodyPost_ret (cL rfl _ _ (w.1.size+1) _ _ _ _ rfl (dq HKX.out) Tryz.underlying41 rfl (by kernel_rfl)) rfl ?_
   rw[HE.out]
   exact⟨rfl,HBX.out.trans (cN.below HBX.out.size (fun k hk hc=>by omega))⟩
end
section
open Go.RowKit
def tG(x:Bat)(u:List Value)(w:World):Prop:=∃rp rc,u=(lN x.at_ x.number x.seq x.first rp x.rows.length rc).toList∧eS w rp rc x.rows
theorem uQ:(Tryz.prog.info? 41).map (fun i=>(i.zero,i.size,i.bytes))=some (some (.agg #[.int .i64 0,.int .i64 0,.int .i64 0,.int .i64 0,.slice none 0 0]),5,56):=by kernel_rfl
theorem Lot.bats{w:World}{B:Nat}{v:Value}{xs:List Bat}(h:Lot 41 5 tG w B v xs):∃q c,v=.slice q xs.length c∧iM w q xs:=by
 obtain⟨q,c,hv,_⟩:=h.form
 refine⟨q,c,hv,fun j hj=>?_⟩
 obtain⟨g,cap,u,h1,_,_,h4,_,h6,rp,rc,h7,h8⟩:=h.cell j hj
 rw[hv] at h1
 injection h1 with h1 _ _
 rw[h7] at h6
 have hc:∀m,m<5->w.cell? ⟨g,0+j*5+m,none⟩=(lN xs[j].at_ xs[j].number xs[j].seq xs[j].first rp xs[j].rows.length rc).toList[m]?:=fun m hm=>by rw[Nat.zero_add];exact h6 m hm
 exact⟨g,0,rp,rc,h1,h4,hc 0 (by omega),hc 1 (by omega),hc 2 (by omega),hc 3 (by omega),hc 4 (by omega),h8⟩
theorem zq7{s:Int->Option (List Col)}{r:Run}{x:Bat}(h:Sv.bat1 s r=some x):x.rows.length<=64∧∀y∈x.rows,∀v∈y,v.wf:=by
 unfold Sv.bat1 at h
 split at h
 ·unfold Sv.saved at h
  dsimp only at h
  split at h
  ·split at h
   ·cases h
   ·split at h
    ·cases h
    ·rename_i l hl
     injection h with h
     subst h
     obtain⟨h0,_,h2⟩:=Bt.unpack_open hl
     have hn:=(Bt.numErr_open h0).2
     obtain⟨h3,_,_,_,h5⟩:=Bt.whole_ok h2
     exact⟨by dsimp only;omega,fun y hy v hv=>(h5 y hy v hv).2⟩
  ·cases h
 ·cases h
structure F17(w1 wr:World)(v:Value)(s:Int->Option (List Col))(rs:List Run):Prop where
 rows:Lot 41 5 tG wr w1.1.size v (Sv.bats s rs)
 below:Below w1.1.size w1 wr
theorem F17.skip{w1 wr W:World}{v:Value}{s:Int->Option (List Col)}{rs:List Run}{r:Run}(h:F17 w1 wr v s rs)(hb:Below wr.1.size wr W)(hs:Sv.bat1 s r=none):F17 w1 W v s (rs++[r]):=⟨by rw[Sv.bats_snoc,hs];simpa using h.rows.on hb,h.below.trans (hb.mono h.below.size)⟩
theorem F17.more{w1 wr W W':World}{v v':Value}{s:Int->Option (List Col)}{rs:List Run}{r:Run}{x:Bat}(h:F17 w1 wr v s rs)(hb:Below wr.1.size wr W)(hs:Sv.bat1 s r=some x)(hl:Lot 41 5 tG W' w1.1.size v' (Sv.bats s rs++[x]))(ha:Aside (fun i=>v.ownBlock=some i) W W'):F17 w1 W' v' s (rs++[r]) :=
 ⟨by rw[Sv.bats_snoc,hs];exact hl,(h.below.trans (hb.mono h.below.size)).trans (ha.below (Nat.le_trans h.below.size hb.size) (fun k hk hc=>by have:=(h.rows.lt k hc).1;omega))⟩
theorem F17.still{w1 wr w2 W:World}{v:Value}{s:Int->Option (List Col)}{rs:List Run}{B:Nat}{rp:OA}{rc:Nat}{x:Bat}(h:F17 w1 wr v s rs)(hr:bL w2 B (.slice rp x.rows.length rc) x.rows)(hB:wr.1.size<=B)(hl:x.rows.length<=64)(hw:∀y∈x.rows,∀v∈y,v.wf)(hb:Below w2.1.size w2 W):dY (fun i=>v.ownBlock=some i) W (tG x (lN x.at_ x.number x.seq x.first rp x.rows.length rc).toList):=fun w' ha=>by
 have hA:Aside (fun i=>v.ownBlock=some i) w2 w':=(ag hb _).trans ha (fun _ _ hc=>hc)
 exact⟨rp,rc,rfl,(hr.aside hA (fun k h1 h2 hc=>by have:=(h.rows.lt k hc).2;omega)).rows (by omega) hw⟩
def yo(w:World)(B:Nat)(xs:List Bat)(e:Ending)(w':World):Prop:=∃q c,e=.returned (.slice q xs.length c)∧iM w' q xs∧Below B w w'
theorem pV{w:World}{B a M gs n:Nat}{v:Value}{g:Int->Option Value}{s:Int->Option (List Col)}{d:Sp}(h:Slv w B a M gs n v g s d):¬(a=gs∨v.ownBlock=some a)∧¬(M=gs∨v.ownBlock=some M):=by
 refine⟨fun hc=>hc.elim (fun e=>?_) (fun e=>?_),fun hc=>hc.elim (fun e=>h.map.off h.spl.lies e.symm) (fun e=>?_)⟩
 ·have h1:=h.lies
  rw[e,h.spl.lies] at h1
  injection h1 with h1
  injection h1 with _ h1 _
  exact absurd h1 (by decide)
 ·obtain⟨C,hC⟩:=ey h.spl.held e
  have h1:=h.lies
  rw[hC] at h1
  injection h1 with h1
  injection h1 with _ h1 _
  exact absurd h1 (by decide)
 ·obtain⟨C,hC⟩:=ey h.spl.held e
  exact h.map.off hC rfl
theorem uV(w:World)(B a M gs n:Nat)(v:Value)(g:Int->Option Value)(s:Int->Option (List Col))(b:L8)(p:OA)(c:Nat)(hS:Slv w B a M gs n v g s Sp.start)(hBw:B<=w.1.size)(hBG:2<B)(hv:Hv w)(hl:b.length<=100000)(hA:At w p b)(hp:b≠[]->∀k o,p=some ⟨k,o,none⟩->k<B):
  Calls Tryz.prog 17 #[.pointer (some ⟨a,0,none⟩),.slice p b.length c] w (yo w B (Sv.bats s (Sp.of b).out)):=by
 have HF:=yQ (vO w B gs v Sp.start p c b hS.spl hA (fun hne k o hk=>by
  have h1:=hp hne k o hk
  have h2:=hS.spl.base
  exact⟨by omega,fun hc=>by have:=(hS.spl.held.lt _ hc).1;omega⟩) (by simp[Sp.start];omega))
 have hte:Sp.start.tolds b=(Sp.of b).out:=by
  have:=Sp.tolds_out Sp.start b
  simpa[Sp.start,Sp.of] using this.symm
 have hol:=Sp.out_len b
 have HSt:=yQ (Sp.row_all b).stand
 have z1:w.cell? ⟨a,1,none⟩=some (.pointer (some ⟨gs,0,none⟩)):=aa hS.lies 1
 have HS:=yQ hS
 have HV:=yQ hv
 have HTe:=yQ hte
 obtain⟨rs,hrs⟩:∃rs,rs=(Sp.of b).out:=⟨_,rfl⟩
 rw[<-hrs] at hol HSt HTe ⊢
 clear hS hv hA hp hrs hte
 go_enter Tryz.func17,Tryz.ntmps17
 go_wp2_with fail
 refine HF.out.mono ?_
 rintro e w1 ⟨q,cap,v',bs,rfl,hfi⟩
 have hro:=hfi.runs
 rw[HTe.out] at hro ⊢
 obtain⟨ap1,ap2⟩:=pV HS.out
 have hl1:=(hfi.aside.block a (ao HS.out.lies) ap1).trans HS.out.lies
 have hb1:Below B w w1:=hfi.aside.below hBw (fun k hk hc=>by
  rcases hc with hc | hc
  ·have:=HS.out.spl.base;omega
  ·have:=(HS.out.spl.held.lt _ hc).1;omega)
 have hse:eR w1 s g:=fun m=>by
  have:=HS.out.sees m
  cases hm:s m with
  |none=>rw[hm] at this;exact this
  |some c0=>
   rw[hm] at this
   obtain⟨p0,d0,e1,e2⟩:=this
   exact⟨p0,d0,e1,e2 w1 hfi.aside⟩
 have HRo:=yQ hro
 have HL1:=yQ hl1
 have HK1:=yQ (HS.out.map.aside hfi.aside ap2)
 have HSe:=yQ hse
 have HV1:=yQ (HV.out.on hb1 hBG)
 have HB1:=yQ hb1
 clear hro hl1 hb1 hse hfi HF ap1 ap2 z1 HTe
 go_wp2_with fail
 go_loopw [5,17] (fun v5 v17 wr=>∃t:Nat,t<=rs.length∧v17=.int .i64 t∧Hid (F17 w1 wr v5 s (rs.take t))) (fun _ v17 _=>rs.length-(intOf v17).toNat)
 case atStart=>exact⟨0,by omega,rfl,gD _ _,yZ⟩
 case round=>
  obtain⟨t,ht,rfl,HR⟩:=hrel
  by_cases htl:t<rs.length
  ·have htl':(t:Int)<(rs.length:Int):=by omega
   obtain⟨bq,cq,pr,cr,hq,hbq,x0,x1,hat,hcr⟩:=(HRo.out.on HR.out.below).cell t htl
   injection hq with hq hq2 hq3
   clear hq2
   subst hq3
   subst hq
   have hlen:=(HSt.out _ (List.getElem_mem htl)).most
   obtain⟨k,ls,hr⟩:∃k ls,rs[t]=(k,ls):=⟨_,_,rfl⟩
   have HTk:Hid (rs.take (t+1)=rs.take t++[(k,ls)]):=by show _=_;rw[List.take_succ_eq_append_getElem htl,hr]
   rw[hr] at x0 x1 hat hcr hlen
   simp only at x0 x1 hat hcr hlen
   obtain⟨wa,hwa⟩:∃W,W=wr.alloc (.cells #[.int .i64 (k:Int),.slice pr ls.length cr] 84):=⟨_,rfl⟩
   have hba:Below wr.1.size wr wa:=by rw[hwa];exact yY
   have hb1a:=HR.out.below.trans (hba.mono HR.out.below.size)
   have HD:=yQ (tF wa a M gs n g s k ls pr cr ((hb1a.block _ (ao HL1.out)).trans HL1.out) (HK1.out.on hb1a) (HSe.out.on hb1a) (HV1.out.next hb1a) (hat.on hba) hlen hcr)
   have HBa:=yQ hba
   have HWa:=yQ hwa
   clear hr hat hwa hba hb1a hcr
   go_wp2_with fail
   rw[<-HWa.out]
   clear HWa x0 x1
   refine HD.out.mono ?_
   clear HD
   cases hd:Sv.bat1 s (k,ls) with
   |none=>
    rintro e w2 ⟨rfl,hb2⟩
    unfold lN
    have HN:=yQ (HR.out.skip (r:=(k,ls)) (HBa.out.trans ((hb2.alloc hb2.size (.cells #[.int .i64 0,.int .i64 0,.int .i64 0,.int .i64 0,.slice none 0 0] 41)).mono HBa.out.size)) hd)
    clear hb2 hd
    go_wp2
    go_roundw
    case rel=>exact⟨t+1,by omega,by go_num,by rw[HTk.out];exact HN⟩
    case measure=>simp[intOf];omega
   |some x=>
    rintro e w2 ⟨rp,rc,rfl,hrb,hb2⟩
    have hwf:=zq7 hd
    have HBd:Hid (Below wr.1.size wr w2):=HBa.out.trans (hb2.mono HBa.out.size)
    obtain⟨-,hBk,hB5,-⟩:=al2 w2 (.cells (lN x.at_ x.number x.seq x.first rp x.rows.length rc) 41) (.cells (lN x.at_ x.number x.seq x.first rp x.rows.length rc) 41)
    have HBk:=yQ hBk
    have HB5:=yQ (HBd.out.trans (hB5.mono HBd.out.size))
    have HSti:=yQ (HR.out.still hrb HBa.out.size hwf.1 hwf.2 hB5)
    have HLt:=yQ (HR.out.rows.on HB5.out)
    have HSn:=yQ hd
    have hsl:=Sv.bats_le s (rs.take t)
    have hsl2:(Sv.bats s (rs.take t)).length<=100000:=by rw[List.length_take] at hsl;omega
    unfold lN at HBk HB5 HSti HLt ⊢
    clear hd hwf hrb hb2 hBk hB5 hsl
    go_wp2_with (first | (at_builtin;refine ja (P:=tG) uQ Tryz.underlying27 rfl (by decide) HLt.out x #[.int .i64 x.at_,.int .i64 x.number,.int .i64 x.seq,.int .i64 x.first,.slice rp x.rows.length rc] rfl (by intro a ha;simp at ha;rcases ha with rfl | rfl | rfl | rfl | rfl <;> rfl) HSti.out HBk.out (by omega) (by omega) (by have:=HR.out.below.size;have:=HB5.out.size;omega) rfl rfl rfl rfl rfl ?_;(intro g2 cap2 w5 hl5 ha5 _);(have HN:=yQ (HR.out.more HB5.out HSn.out hl5 ha5));(clear hl5 ha5)) | fail)
    go_roundw
    case rel=>exact⟨t+1,by omega,by go_num,by rw[HTk.out];exact HN⟩
    case measure=>simp[intOf];omega
  ·have hjn:¬(t:Int)<(rs.length:Int):=by omega
   obtain rfl:t=rs.length:=by omega
   have hs:=HR.out
   rw[List.take_length] at hs
   obtain⟨q2,c2,hv2,hsc⟩:=hs.rows.bats
   subst hv2
   have HZ:=yQ (And.intro hsc (HB1.out.trans (hs.below.mono (Nat.le_trans hBw HB1.out.size))))
   clear htl hs hsc
   go_wp2
   go_ret
   exact⟨q2,c2,rfl,HZ.out.1,HZ.out.2⟩
theorem tJ:tY Hv where
 on h hb:=h.next hb
 all b p c w hl hbc hA hv:=by
  have HSc:=yQ (ji b p c w hl hbc hA hv)
  have HA:=yQ hA
  have HV:=yQ hv
  clear hA hv
  go_enter Tryz.func6,Tryz.ntmps6
  go_wp2_with fail
  refine HSc.out.mono ?_
  rintro e w1 ⟨l,q,d,rfl,hsl,hpw,hmem,hle,hb1⟩
  have HN:=yQ (wu l q d w1 hle hsl (fun x hx=>Sv.said_good _ x (Sv.sure_mem ((hmem x.1 x.2).1 hx))))
  have hsu:∀m,Sv.sure l m=Sv.sure (Sv.said (Sp.of b).out) m:=fun m=>by
   apply Option.ext
   intro x
   rw[rT hpw,hmem]
  have HSu:=yQ (funext hsu)
  have HB1:=yQ hb1
  clear hsl hpw hmem hle hb1 hsu HSc
  go_wp2_with fail
  refine HN.out.mono ?_
  rintro e w2 ⟨a,M,gs,n,v,g,rfl,hslv,hb2⟩
  rw[HSu.out] at hslv
  have hb02:=HB1.out.trans (hb2.mono HB1.out.size)
  have HF:=yQ (uV w2 w1.1.size a M gs n v g _ b p c hslv hb2.size (Nat.lt_of_lt_of_le HV.out.lt HB1.out.size) (HV.out.next hb02) hl (HA.out.on hb02) (fun hne k o hk=>by
   rcases HA.out with h0 | ⟨b',o',h1,h2,h3⟩
   ·exact absurd h0 hne
   ·rw[h1] at hk
    injection hk with hk
    injection hk with e1 _
    subst e1
    exact Nat.lt_of_lt_of_le h2 HB1.out.size))
  have HB2:=yQ hb02
  clear hslv hb2 hb02 HN
  go_wp2_with fail
  refine HF.out.mono ?_
  rintro e w3 ⟨q3,c3,rfl,hbl,hb3⟩
  have HZ:=yQ (And.intro hbl (HB2.out.trans (hb3.mono HB1.out.size)))
  clear hbl hb3 HF
  go_wp2
  go_ret
  exact⟨q3,c3,rfl,HZ.out.1,HZ.out.2⟩
end
section
open Go.RowKit
theorem ss(p q:OA)(c d:Nat)(w:World)(hS:bQ w p c aG)(hL:eS w q d [bC]):Calls Tryz.prog 7 #[.agg #[.slice p 1 c],.slice q 1 d] w (rB w ⟨0,[0,10]⟩):=by
 have h:=wl aG p c [bC] (r9 (fun y hy x hx=>by
  rw[List.mem_singleton.1 hy] at hx
  exact⟨5,0,⟨#[]⟩,List.mem_singleton.1 hx⟩)) (by rw[dF];decide) tC q d w hS hL
 rw[dF] at h
 exact h
theorem uJ(w:World)(hv:Hv w):Calls Tryz.prog 4 #[] w fun e w'=>e=.returned (.bool true)∧Below w.1.size w w':=wy tJ ji ss (fun f u w hk hw hv h=>hk.elim (fun h1=>kO f h1 hw u w hv h) (fun h2=>kN f h2 hw u w hv h)) w hv
end
end Go.Proofs.YtdgacombdcajmaaGreatDoor
