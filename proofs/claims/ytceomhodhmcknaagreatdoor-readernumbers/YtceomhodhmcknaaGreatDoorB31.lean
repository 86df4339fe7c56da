import Derived.Test.YtceomhodhmcknaaGreatDoorB30
import Derived.Test.YtceomhodhmcknaaGreatDoorB27
set_option maxRecDepth 100000
set_option maxHeartbeats 2000000
namespace Go.Proofs.YtceomhodhmcknaaGreatDoor
variable{A R m n:Nat}{w w':World}{l:L8}{k:Int}{u:AV}{t:Ty}
section
open Go.RowKit
attribute [local go_sem] af
section
variable {L:L8}
theorem mN(l:L8)(A R:Nat)(w:World)(p:OA)(n c:Nat)(h:aC L w A R l):Calls Tryz.prog 171 #[.pointer (some ⟨R,0,none⟩),.agg #[.int .i64 3,.slice p n c]] w (bP L w A R l (Sch.scalar 3 l) (isV w)):=by
 have hR:=h.lt
 obtain⟨W,hW⟩:∃W,W=(w.alloc (.cells #[.int .i64 3,.slice p n c] 88)).alloc (.cells #[.int .i64 0,.int .i64 0,.float .f64 0,.string ⟨#[]⟩,.slice none 0 0] 47):=⟨_,rfl⟩
 have HI:Hid (ba L w W A R #[.int .i64 3,.slice p n c] l):=by rw[hW];exact bl _ h
 have HW:=xQ hW
 obtain⟨r,hr⟩:∃r,r=Sch.scalar 3 l:=⟨_,rfl⟩
 have HR0:=xQ (hr.trans (ln l))
 rw[<-hr]
 have HT:=xQ (jM 8 l A R W HI.out.rd)
 clear h hr hW
 by_cases hlt:l.length<8
 ·have e1:aV 8 l=.error 30:=by rw[aV,if_pos hlt]
  have HR:Hid (r=.error 30):=by show _=_;rw[HR0.out,Sch.float,if_pos hlt];rfl
  rw[e1] at HT
  clear e1 hlt HR0
  go_enter Tryz.func171,Tryz.ntmps171
  go_wp2_with fail
  rw[<-HW.out]
  refine HT.out.mono ?_
  intro e w1 hh
  obtain⟨he,ha⟩:=hh.bad
  subst he
  clear hh
  have HA:=xQ (HI.out.aside.trans ha (fun _ _ h=>h))
  clear ha HT
  go_wp2
  rw[HR.out]
  exact⟨rfl,rfl,HA.out⟩
 ·have e1:aV 8 l=.ok (l.take 8,8):=by rw[aV,if_neg hlt]
  have HR:Hid (r=if aH (Sch.un (l.take 8))=Sch.un (l.take 8) then .ok (.mk 3 0 (Sch.un (l.take 8)) ⟨#[]⟩ [],8) else .error 5):=by
   show _=_
   rw[HR0.out,Sch.float,if_neg hlt]
   split
   ·rw[aG]
   ·rfl
  rw[e1] at HT
  have hb8:(l.take 8).length=8:=by rw[List.length_take];omega
  obtain⟨b,hb⟩:∃b,b=l.take 8:=⟨_,rfl⟩
  rw[<-hb] at HT HR hb8
  have HB8:=xQ hb8
  have HU:Hid (Sch.un (b.take 0)=0):=by show _=_;simp[Sch.un]
  clear e1 hlt HR0 hb hb8
  go_enter Tryz.func171,Tryz.ntmps171
  go_wp2_with fail
  rw[<-HW.out]
  refine HT.out.mono ?_
  intro e w1 hh
  obtain⟨v,he,hv,hrd,ha⟩:=hh.good
  obtain⟨q,c8,hv2,hat,-⟩:=hv.open
  clear hh hv
  subst hv2
  subst he
  rw[HB8.out]
  have HI1:=xQ (HI.out.step ha hrd hR)
  obtain⟨bq,oq,hq,-,hcs⟩:=aZ hat (by rw[HB8.out];decide)
  subst hq
  have HCs:=xQ hcs
  clear ha HT hat hrd hcs HI HW
  go_wp2_with fail
  go_loop [5,12] (fun v3 v10=>∃(k m:Nat),k<=8∧v10=.int .i64 k∧v3=.int .u64 m∧m<18446744073709551616∧Hid (m=Sch.un (b.take k))) (fun _ v10=>8-(intOf v10).toNat)
  case atStart=>exact⟨0,0,by omega,rfl,rfl,by omega,HU.out.symm⟩
  case round=>
   obtain⟨k,m,hk,rfl,rfl,hm,HK⟩:=hrel
   by_cases hk8:k<8
   ·have hk1:(k:Int)<8:=by omega
    have hkb:k<b.length:=by rw[HB8.out];exact hk8
    have d0:=HCs.out k hkb
    have hs:=fh b k hkb
    have hlt2:=dN b (k+1) (by omega)
    obtain⟨x,hx⟩:∃x,x=b[k].toNat:=⟨_,rfl⟩
    rw[<-hx] at d0 hs
    have hx8:x<256:=by rw[hx];exact b[k].toNat_lt
    have hlim:m+x*256 ^ k<18446744073709551616:=by
     rw[HK.out,<-hs]
     have e:(256:Nat) ^ (k+1)<=256 ^ 8:=Nat.pow_le_pow_right (by decide) (by omega)
     have e2:(256:Nat) ^ 8=18446744073709551616:=by decide
     omega
    have hor:=lI m x k (by rw[HK.out];exact dN b k (by omega)) hlim
    have HN:Hid (m+x*256 ^ k=Sch.un (b.take (k+1))):=by show _=_;rw[hs,HK.out]
    clear hs hlt2 hx HK hkb
    obtain⟨y,hy⟩:∃y,y=m+x*256 ^ k:=⟨_,rfl⟩
    rw[<-hy] at hor HN hlim
    clear hy
    go_wp2
    go_round
    case rel=>exact⟨k+1,y,by omega,by go_num,rfl,hlim,HN.out⟩
    case measure=>simp[intOf];omega
   ·have hkn:¬(k:Int)<8:=by omega
    have hk9:k=8:=by omega
    subst hk9
    have HN:Hid (m=Sch.un b):=by
     show _=_
     rw[HK.out,List.take_of_length_le (by rw[HB8.out];exact xX)]
    clear HK
    have HOf:=xQ (ip (m:Int))
    have em:((m:Int)).toNat=m:=by omega
    rw[em] at HOf
    have HBi:=xQ (cJ (aH m))
    rw[eI] at HBi
    have HR2:Hid (r=if aH m=m then .ok (.mk 3 0 m ⟨#[]⟩ [],8) else .error 5):=by show _=_;rw[HR.out,HN.out]
    clear HR HN em
    have k0:w1.cell? ⟨w.1.size,0,none⟩=some (.int .i64 3):=aa HI1.out.b0 0
    have q0:w1.cell? ⟨w.1.size+1,0,none⟩=some (.int .i64 0):=aa HI1.out.b1 0
    have qf0:w1.frozen? ⟨w.1.size+1,0,none⟩=false:=ac HI1.out.b1 0
    have q1:w1.cell? ⟨w.1.size+1,1,none⟩=some (.int .i64 0):=aa HI1.out.b1 1
    have qf1:w1.frozen? ⟨w.1.size+1,1,none⟩=false:=ac HI1.out.b1 1
    have q2:w1.cell? ⟨w.1.size+1,2,none⟩=some (.float .f64 0):=aa HI1.out.b1 2
    have qf2:w1.frozen? ⟨w.1.size+1,2,none⟩=false:=ac HI1.out.b1 2
    have q3:w1.cell? ⟨w.1.size+1,3,none⟩=some (.string ⟨#[]⟩):=aa HI1.out.b1 3
    have qf3:w1.frozen? ⟨w.1.size+1,3,none⟩=false:=ac HI1.out.b1 3
    have q4:w1.cell? ⟨w.1.size+1,4,none⟩=some (.slice none 0 0):=aa HI1.out.b1 4
    have qf4:w1.frozen? ⟨w.1.size+1,4,none⟩=false:=ac HI1.out.b1 4
    go_wp2_with fail
    refine(HOf.out _).mono ?_
    rintro e w2 ⟨rfl,hw2⟩
    rw[hw2]
    clear hw2 w2
    go_wp2_with fail
    refine(HBi.out _).mono ?_
    rintro e w2 ⟨rfl,hw2⟩
    rw[hw2]
    clear hw2 w2
    by_cases hfx:aH m=m
    ·have HR4:Hid (r=.ok (.mk 3 0 m ⟨#[]⟩ [],8)):=HR2.out.trans (if_pos hfx)
     have HFin:=xQ (HI1.out.fin hR 3 0 m ⟨#[]⟩)
     rw[hfx]
     clear HR2
     go_wp2_with fail
     refine(cW _ 5 _).mono ?_
     rintro e w2 ⟨rfl,hw2⟩
     rw[hw2]
     clear hw2 w2
     go_wp2
     obtain⟨f1,f2,f3,f4⟩:=HFin.out
     refine bodyPost_ret (v:=.agg (cells5 3 0 m ⟨#[]⟩ none 0 0)) (results_cell_row rfl _ _ (w.1.size+1) _ _ _ _ rfl f1 Tryz.underlying47 rfl (by kernel_rfl)) rfl ?_
     rw[HR4.out]
     exact⟨_,rfl,f2,f3,f4⟩
    ·have HR4:Hid (r=.error 5):=HR2.out.trans (if_neg hfx)
     have g0:((aH m:Int)==(m:Int))=false:=bv (by omega)
     clear HR2
     go_wp2_with fail
     refine(cK _ 5 _).mono ?_
     rintro e w2 ⟨rfl,hw2⟩
     rw[hw2]
     clear hw2 w2
     go_wp2
     rw[HR4.out]
     exact⟨rfl,rfl,HI1.out.aside⟩
end
end
section
open Go.RowKit
attribute [local go_sem] af
structure ce(w:World)(R:Nat)(u:AV)(t:Ty):Prop where
 out:∃w0:World,aL w0 u t∧Below w0.1.size w0 w∧w0.1.size<=R
theorem ce.aside(h:ce w R u t)(ha:Aside (fun i=>i=R) w w'):ce w' R u t:=by
 obtain⟨w0,h1,h2,h3⟩:=h.out
 exact⟨w0,h1,h2.trans (ha.below h2.size (fun k hk hc=>by omega)),h3⟩
theorem ce.on(h:ce w R u t)(hb:Below w.1.size w w'):ce w' R u t:=by
 obtain⟨w0,h1,h2,h3⟩:=h.out
 exact⟨w0,h1,h2.trans (hb.mono h2.size),h3⟩
theorem ce.one{x:Ty}(h:ce w R u (.mk k [x])):∃g off c k' q n' c',u=ar k (some ⟨g,off,none⟩) 1 c∧ce w R (ar k' q n' c') x∧g<R∧g<w.1.size∧w.cell? ⟨g,off,none⟩=some (.int .i64 k')∧w.cell? ⟨g,off+1,none⟩=some (.slice q n' c'):=by
 obtain⟨w0,h1,h2,h3⟩:=h.out
 obtain⟨p,c,rfl,-,-,hxi⟩:=h1.open
 obtain⟨u',hu',hit⟩:=hxi 0 (by simp)
 obtain⟨b0,o0,k0,q0,n0,c0,hp0,hb0,-⟩:=hit.lies
 obtain⟨bx,ox,kx,qx,nx,cx,hp,hlt,hu,a0,a1⟩:=(hit.on h2).lies
 subst hp hu
 injection hp0 with hp0
 injection hp0 with e1 e2
 subst e1 e2
 refine⟨bx,ox,c,kx,qx,nx,cx,rfl,⟨w0,hu',h2,h3⟩,by omega,hlt,by simpa using a0,by simpa using a1⟩
theorem ce.shape(h:ce w R u t):∃k p n c,u=ar k p n c:=by
 obtain⟨w0,h1,_⟩:=h.out
 obtain⟨k,ts⟩:=t
 obtain⟨p,c,hu,-⟩:=h1.open
 exact⟨k,p,_,c,hu⟩
def fI(t:Ty):Prop:=∀(L l:L8) (A R:Nat) (w:World) (u:AV),ce w R u t->aC L w A R l->Calls Tryz.prog 121 #[.pointer (some ⟨R,0,none⟩),.agg u] w (bP L w A R l (Sch.rdV t l) (isV w))
structure fN(L:L8)(w wr:World)(A R:Nat)(u:AV)(t:Ty)(m:Nat)(l:L8)(r:Except Nat (List V×Nat))(ys:List V)(v:Value):Prop where
 built:∃us Fs,bd wr (w.1.size+1) v ys.length us Fs ys
 b0:wr.1[w.1.size]?=some (.cells u 88 (0,0))
 far:ce w R u t
 left:∃n,aC L wr A R (l.drop n)∧r=glue ys n (Sch.rdN (Sch.rdV t) (m-ys.length) (l.drop n))
 aside:Aside (fun i=>i=R) w wr
 low:R<w.1.size
 size:w.1.size+1<=wr.1.size
 len:ys.length<=m
section
variable {L:L8}
theorem ja(hf:ce w R u t)(h:aC L w A R l):fN L w (w.alloc (.cells u 88)) A R u t m l (Sch.rdN (Sch.rdV t) m l) [] (.slice none 0 0):=by
 have hb:Below w.1.size w (w.alloc (.cells u 88)):=xY
 refine⟨⟨_,_,gk _ _⟩,ap w _,hf,⟨0,h.on hb,?_⟩,ag hb _,h.lt,by simp,Nat.zero_le _⟩
 rw[List.drop_zero,List.length_nil,Nat.sub_zero]
 cases Sch.rdN (Sch.rdV t) m l with
 |error e=>rfl
 |ok p=>simp[glue]
theorem fN.next{wr w2 w4:World}{r:Except Nat (List V×Nat)}{ys:List V}{v:Value}(h:fN L w wr A R u t m l r ys v){us:Nat->AV}{Fs:Nat->Nat->Prop}(hbt:bd wr (w.1.size+1) v ys.length us Fs ys){n j:Nat}{x:V}{u':AV}(hlt:ys.length<m)(hl:r=glue ys n (Sch.rdN (Sch.rdV t) (m-ys.length) (l.drop n)))(hx:Sch.rdV t (l.drop n)=.ok (x,j))(ha:Aside (fun i=>i=R) wr w2)(hown:aR w2 (fun k=>wr.1.size<=k∧k<w2.1.size) u' x)(hrd:aC L w2 A R ((l.drop n).drop j)):
  (w2.alloc (.cells u' 47)).ownsRow (w.1.size+1) 47 5 v ys.length (flat us ys.length) ∧
  ∀g cap,w4.ownsRow (w.1.size+1) 47 5 (.slice (some ⟨g,0,none⟩) (ys.length+1) cap) (ys.length+1) (flat us ys.length++u'.toList)->(w2.alloc (.cells u' 47)).grownBy w4 v.ownBlock->(v.ownBlock=some g∨g=(w2.alloc (.cells u' 47)).1.size) ->
   fN L w w4 A R u t m l r (ys++[x]) (.slice (some ⟨g,0,none⟩) (ys.length+1) cap):=by
 have hs:=h.size
 have hlow:=h.low
 have hs2:=ha.size
 have hb3:Below w2.1.size w2 (w2.alloc (.cells u' 47)):=xY
 have hs3:=hb3.size
 obtain⟨wx,hx1,hx2,hx3⟩:=ha.split (by omega)
 have hbx:bd wx (w.1.size+1) v ys.length us Fs ys:=hbt.aside hx1 (fun g hg he=>by have:=(hbt.lt g hg).1;omega) (fun i hi k hk he=>by have:=(hbt.range i hi k hk).1;omega)
 refine⟨((hbx.on hx3).on hb3).row,fun g cap hr hg hn=>?_⟩
 have hst:=hbx.step hx3 hown (fun k hk=>⟨by rw[hx2];exact hk.1,hk.2⟩) hb3 (by rw[hx2];exact hs) hr hg hn
 have hs4:=hg.size
 have hv:=fun k (hk:v.ownBlock=some k)=>(hbx.lt k hk)
 have a34:Aside (fun k=>v.ownBlock=some k) w2 w4:=(ag hb3 _).trans (G:=fun k=>v.ownBlock=some k) ⟨hg.os,hg.tape,hg.output,hg.size,fun k hk hf=>hg.block k hk (fun hc=>hf hc.symm)⟩ (fun _ _ h=>h)
 have keep:∀k,k<=w.1.size->k≠R->w4.1[k]?=wr.1[k]?:=fun k hk hne=>by
  rw[a34.block k (by omega) (fun hc=>by have:=(hv k hc).1;omega),ha.block k (by omega) hne]
 have har:Aside (fun i=>i=R) w w4:=by
  refine(h.aside.trans ha (fun _ _ h=>h)).trans a34 (fun i hi hc=>?_)
  have:=(hv i hc).1
  omega
 refine⟨⟨_,_,by rw[List.length_append,List.length_singleton];exact hst⟩,(keep _ xX (by omega)).trans h.b0,?_,⟨n+j,?_,?_⟩,har,hlow,by omega,by rw[List.length_append,List.length_singleton];omega⟩
 ·exact h.far
 ·rw[<-List.drop_drop]
  exact hrd.aside a34 (fun k hk=>by have:=(hv k hk).1;omega)
 ·rw[hl,show m-ys.length=(m-(ys++[x]).length)+1 by rw[List.length_append,List.length_singleton];omega,fm,hx,ol,ga,List.drop_drop]
theorem lT(t:Ty)(hv:fI t)(m:Nat)(hm:m<=256)(l:L8)(A R:Nat)(w:World)(u:AV)(hf:ce w R u t)(h:aC L w A R l):Calls Tryz.prog 196 #[.pointer (some ⟨R,0,none⟩),.int .i64 m,.agg u] w (bP L w A R l (Sch.rdN (Sch.rdV t) m l) (jz w)):=by
  obtain⟨k0,p0,n0,c0,hu⟩:=hf.shape
  have HS:=xQ (ja (m:=m) hf h)
  have HV:=xQ hv
  have hlow:=h.lt
  obtain⟨r,hr⟩:∃r,r=Sch.rdN (Sch.rdV t) m l:=⟨_,rfl⟩
  rw[<-hr] at HS ⊢
  subst hu
  unfold ar at HS ⊢
  clear hr hf h hv
  go_enter Tryz.func196,Tryz.ntmps196
  go_wp2_with fail
  go_loopw [7,9] (fun v7 v9 wr=>∃(ys:List V) (q:OA) (c:Nat),v9=.int .i64 ys.length∧v7=.slice q ys.length c∧ys.length<=m∧Hid (fN L w wr A R #[.int .i64 k0,.slice p0 n0 c0] t m l r ys (.slice q ys.length c))) (fun _ v9 _=>m-(intOf v9).toNat)
  case atStart=>exact⟨[],none,0,rfl,rfl,Nat.zero_le _,HS.out⟩
  case round=>
    obtain⟨ys,q,c,rfl,rfl,hyl,HI⟩:=hrel
    by_cases hlt:ys.length<m
    · have hj1:(ys.length:Int)<(m:Int):=by omega
      have b0:wr.cell? ⟨w.1.size,0,none⟩=some (.int .i64 k0):=aa HI.out.b0 0
      have b1:wr.cell? ⟨w.1.size,1,none⟩=some (.slice p0 n0 c0):=aa HI.out.b0 1
      obtain⟨n,hrd,hrr⟩:=HI.out.left
      obtain⟨us,Fs,hbt⟩:=HI.out.built
      have HC:=xQ (HV.out L (l.drop n) A R wr _ (HI.out.far.aside HI.out.aside) hrd)
      have HRr:=xQ hrr
      have HBt:=xQ hbt
      obtain⟨mx,hmx⟩:∃x,x=Sch.rdV t (l.drop n):=⟨_,rfl⟩
      rw[<-hmx] at HC
      have HMx:=xQ hmx
      clear hrd hrr hbt hmx
      cases mx with
      |error er=>
        have HRe:Hid (r=.error er):=by
          show _=_
          rw[HRr.out,show m-ys.length=(m-ys.length-1)+1 by omega,fm,<-HMx.out]
          rfl
        go_wp2_with fail
        refine HC.out.mono ?_
        intro e w1 hh
        obtain⟨he,ha⟩:=hh.bad
        subst he
        clear hh
        have HA:=xQ (HI.out.aside.trans ha (fun _ _ h=>h))
        clear ha HC
        go_wp2
        rw[HRe.out]
        exact⟨rfl,rfl,HA.out⟩
      |ok xj=>
        obtain⟨x,j⟩:=xj
        go_wp2_with fail
        refine HC.out.mono ?_
        intro e w2 hh
        obtain⟨v,he,hv,hrd,ha⟩:=hh.good
        obtain⟨u',hv2,hown⟩:=hv.open
        clear hh hv
        obtain⟨k',i',b',t',p',n',c',hu'⟩:=hown.shape
        subst hu'
        subst hv2
        subst he
        unfold cells5 at hown ⊢
        have HNx:=xQ (fun w4=>HI.out.next (w4:=w4) HBt.out hlt HRr.out HMx.out.symm ha hown hrd)
        have HOn:=xQ hown
        have hsz:w.1.size+1<=w2.1.size+1:=by have:=HI.out.size;have:=ha.size;omega
        clear ha hrd hown HC b0 b1
        go_wp2_with (first
          | (at_builtin;refine oc (B:=w.1.size+1) (us:=us) (v:=.slice q ys.length c) (n:=ys.length) (HNx.out w2).1 (u:=#[.int .i64 k',.int .i64 i',.float .f64 b',.string t',.slice p' n' c']) rfl (wE HOn.out) (ad:=w2.1.size) (ap w2 _) (by omega) (by simpa using hsz) (H:=w2.1.size+1) (by simp) rfl rfl rfl rfl ?_
             intro g2 cap2 w4 hr4 hg4 hn4
             have HI4:=xQ ((HNx.out w4).2 g2 cap2 hr4 hg4 (by simpa using hn4))
             clear hr4 hg4 hn4))
        go_roundw
        case rel=>
          refine⟨ys++[x],some ⟨g2,0,none⟩,cap2,by simp,by simp,by simp;omega,?_⟩
          have:=HI4.out
          rw[List.length_append,List.length_singleton]
          exact this
        case measure=>simp[intOf];omega
    · have hjn:¬(ys.length:Int)<(m:Int):=by omega
      have hm0:m-ys.length=0:=by omega
      obtain⟨n,hrd,hrr⟩:=HI.out.left
      obtain⟨us,Fs,hbt⟩:=HI.out.built
      have HRok:Hid (r=.ok (ys,n)):=by
        show _=_
        rw[hrr,hm0,Sch.rdN,glue,List.append_nil,Nat.add_zero]
      have HIts:Hid (jz w ys (.slice q ys.length c) wr):=by
        refine⟨q,c,rfl,fun k=>?_⟩
        obtain⟨p2,c2,he,hown⟩:=hbt.done (by omega) k 0 0 ⟨#[]⟩
        injection he with e1 e2 e3
        subst e1 e3
        exact hown.mono (fun i hi=>⟨by omega,hi.2⟩)
      have HRd:=xQ hrd
      have HA:=xQ HI.out.aside
      clear hrd hrr hbt HI hm0
      go_wp2
      go_ret
      rw[HRok.out]
      exact⟨_,rfl,HIts.out,HRd.out,HA.out⟩
end
end
section
open Go.RowKit
attribute [local go_sem] af
section
variable {L:L8}
theorem bP.undrew{α:Type}{w w':World}{A R:Nat}{l:L8}{r:Except Nat (α×Nat)}{V:α->Value->World->Prop}{e:Ending}(h:bP L w.drew A R l r V e w'):bP L w A R l r V e w':=by
 cases r with
 |error k=>
  obtain⟨h1,h2⟩:=h.bad
  exact⟨h1,⟨h2.os,h2.tape,h2.output,h2.size,h2.block⟩⟩
 |ok aj=>
  obtain⟨a,j⟩:=aj
  obtain⟨v,h1,h2,h3,h4⟩:=h.good
  exact⟨v,h1,h2,h3,⟨h4.os,h4.tape,h4.output,h4.size,h4.block⟩⟩
theorem qY(x:Ty)(hx:fI x)(l:L8)(A R:Nat)(w:World)(u:AV)(hf:ce w R u (.mk 6 [x]))(h:aC L w A R l):Calls Tryz.prog 174 #[.pointer (some ⟨R,0,none⟩),.agg u] w (bP L w A R l (Sch.rdV (.mk 6 [x]) l) (isV w)):=by
  have hR:=h.lt
  obtain⟨g,off,c,k',q',n',c',rfl,hfx,hRg,hgw,y0,y1⟩:=hf.one
  unfold ar
  obtain⟨W,hW⟩:∃W,W=(w.alloc (.cells #[.int .i64 6,.slice (some ⟨g,off,none⟩) 1 c] 88)).alloc (.cells #[.int .i64 0,.int .i64 0,.float .f64 0,.string ⟨#[]⟩,.slice none 0 0] 47):=⟨_,rfl⟩
  have HI:Hid (ba L w W A R #[.int .i64 6,.slice (some ⟨g,off,none⟩) 1 c] l):=by rw[hW];exact bl _ h
  have HW:=xQ hW
  obtain⟨r,hr⟩:∃r,r=Sch.rdV (.mk 6 [x]) l:=⟨_,rfl⟩
  have HR0:=xQ (hr.trans (jX 6 (by omega) x l))
  rw[<-hr]
  have HR:Hid (r=au (Sch.bit l) fun m j=>au (Sch.rdN (Sch.rdV x) m (l.drop j)) fun vs j2=>.ok (.mk 6 0 0 ⟨#[]⟩ vs,j+j2)):=by show _=_;rw[HR0.out,rD]
  have HC:Hid (Calls Tryz.prog 189 #[.pointer (some ⟨R,0,none⟩)] W.drew (bP L W A R l (Sch.bit l) isI)):=(oH l A R W.drew HI.out.rd.drew).mono fun _ _ h=>h.undrew
  have HFx:=xQ hfx
  have HX:=xQ hx
  -- the cells that are read,wherever only the reader has changed
  have HCells:Hid (∀W',Aside (fun i=>i=R) W W'->W'.cell? ⟨w.1.size,0,none⟩=some (.int .i64 6)∧W'.cell? ⟨w.1.size,1,none⟩=some (.slice (some ⟨g,off,none⟩) 1 c)∧W'.cell? ⟨g,off,none⟩=some (.int .i64 k')∧W'.cell? ⟨g,off+1,none⟩=some (.slice q' n' c')):=fun W' ha=>by
    have hs:=HI.out.size
    have hgW:g<W.1.size:=by omega
    refine⟨?_,?_,?_,?_⟩
    · rw[ha.cell (show w.1.size<W.1.size by omega) (show ¬w.1.size=R by omega)];exact aa HI.out.b0 0
    · rw[ha.cell (show w.1.size<W.1.size by omega) (show ¬w.1.size=R by omega)];exact aa HI.out.b0 1
    · rw[ha.cell (show g<W.1.size from hgW) (show ¬g=R by omega),HI.out.aside.cell hgw (show ¬g=R by omega)];exact y0
    · rw[ha.cell (show g<W.1.size from hgW) (show ¬g=R by omega),HI.out.aside.cell hgw (show ¬g=R by omega)];exact y1
  obtain⟨x0,x1,x2,x3⟩:=HCells.out W (Aside.refl _ _)
  have q0:W.cell? ⟨w.1.size+1,0,none⟩=some (.int .i64 0):=aa HI.out.b1 0
  have qf0:W.frozen? ⟨w.1.size+1,0,none⟩=false:=ac HI.out.b1 0
  have q1:W.cell? ⟨w.1.size+1,1,none⟩=some (.int .i64 0):=aa HI.out.b1 1
  have qf1:W.frozen? ⟨w.1.size+1,1,none⟩=false:=ac HI.out.b1 1
  have q2:W.cell? ⟨w.1.size+1,2,none⟩=some (.float .f64 0):=aa HI.out.b1 2
  have qf2:W.frozen? ⟨w.1.size+1,2,none⟩=false:=ac HI.out.b1 2
  have q3:W.cell? ⟨w.1.size+1,3,none⟩=some (.string ⟨#[]⟩):=aa HI.out.b1 3
  have qf3:W.frozen? ⟨w.1.size+1,3,none⟩=false:=ac HI.out.b1 3
  have q4:W.cell? ⟨w.1.size+1,4,none⟩=some (.slice none 0 0):=aa HI.out.b1 4
  have qf4:W.frozen? ⟨w.1.size+1,4,none⟩=false:=ac HI.out.b1 4
  obtain⟨m0,hm0⟩:∃m,m=Sch.bit l:=⟨_,rfl⟩
  rw[<-hm0] at HR HC
  have HM:=xQ hm0
  clear hr hm0 h hW hfx hx y0 y1 hf HR0
  cases m0 with
  |error er=>
    have HErr:Hid (∀w2,Aside (fun i=>i=R) W w2->bP L w A R l r (isV w) (.panicked (cY er)) w2):=fun w2 ha=>by
      have e:r=.error er:=HR.out
      rw[e]
      exact⟨rfl,HI.out.aside.trans ha (fun _ _ h=>h)⟩
    clear HR
    go_enter Tryz.func174,Tryz.ntmps174
    go_wp2_with fail
    rw[<-HW.out]
    go_region_law (first
      | (refine bY (.tmp 8) 208 (by rfl) (by rfl) (by rfl) Tryz.func189 (by kernel_rfl) (by rfl) HC.out (fun e w2 hh=>⟨_,hh.bad.1,rfl,HErr.out w2 hh.bad.2⟩) (.int .i64 0) ?_
         intro HF)
      | (refine br HF (.slice none 0 0) ?_))
    all_goals exact HF.out.elim
  |ok mj=>
    obtain⟨m,j⟩:=mj
    have hm256:m<=256:=by have:=(Sch.bit_ok HM.out.symm).1;omega
    have HR2:Hid (r=au (Sch.rdN (Sch.rdV x) m (l.drop j)) fun vs j2=>.ok (.mk 6 0 0 ⟨#[]⟩ vs,j+j2)):=HR.out
    have HCi:=xQ (fun w1 (ha:Aside (fun i=>i=R) W w1) (hrd:aC L w1 A R (l.drop j))=>lT x HX.out m hm256 (l.drop j) A R w1 _ ((HFx.out.aside HI.out.aside).aside ha) hrd)
    unfold ar at HCi
    obtain⟨m1,hm1⟩:∃m1,m1=Sch.rdN (Sch.rdV x) m (l.drop j):=⟨_,rfl⟩
    rw[<-hm1] at HR2 HCi
    clear HR hm1 HM HX HFx
    cases m1 with
    |error er=>
      have HErr:Hid (∀w1 w2,Aside (fun i=>i=R) W w1->Aside (fun i=>i=R) w1 w2->bP L w A R l r (isV w) (.panicked (cY er)) w2):=fun w1 w2 ha ha2=>by
        have e:r=.error er:=HR2.out
        rw[e]
        exact⟨rfl,(HI.out.aside.trans ha (fun _ _ h=>h)).trans ha2 (fun _ _ h=>h)⟩
      clear HR2
      go_enter Tryz.func174,Tryz.ntmps174
      go_wp2_with fail
      rw[<-HW.out]
      go_region_law (first
        | (refine aN (.tmp 8) 208 (by rfl) (by rfl) (by rfl) Tryz.func189 (by kernel_rfl) (by rfl) HC.out ?_
           intro e w1 hh
           obtain⟨v,he,hv,hrd,ha⟩:=hh.good
           clear hh
           replace hv:v=.int .i64 (m:Nat):=hv
           subst hv
           refine⟨_,he,?_⟩
           clear he
           have HA1:=xQ ha
           have HRd1:=xQ hrd
           obtain⟨x0',x1',x2',x3'⟩:=HCells.out w1 ha
           have HI1:=xQ (HI.out.step ha hrd hR)
           have r0:w1.cell? ⟨w.1.size+1,0,none⟩=some (.int .i64 0):=aa HI1.out.b1 0
           have rf0:w1.frozen? ⟨w.1.size+1,0,none⟩=false:=ac HI1.out.b1 0
           have r1:w1.cell? ⟨w.1.size+1,1,none⟩=some (.int .i64 0):=aa HI1.out.b1 1
           have rf1:w1.frozen? ⟨w.1.size+1,1,none⟩=false:=ac HI1.out.b1 1
           have r2:w1.cell? ⟨w.1.size+1,2,none⟩=some (.float .f64 0):=aa HI1.out.b1 2
           have rf2:w1.frozen? ⟨w.1.size+1,2,none⟩=false:=ac HI1.out.b1 2
           have r3:w1.cell? ⟨w.1.size+1,3,none⟩=some (.string ⟨#[]⟩):=aa HI1.out.b1 3
           have rf3:w1.frozen? ⟨w.1.size+1,3,none⟩=false:=ac HI1.out.b1 3
           have r4:w1.cell? ⟨w.1.size+1,4,none⟩=some (.slice none 0 0):=aa HI1.out.b1 4
           have rf4:w1.frozen? ⟨w.1.size+1,4,none⟩=false:=ac HI1.out.b1 4
           clear ha hrd)
        | (refine cE (.tmp 7) (.tmp 9) (.tmp 13) 208 3 88 (by rfl) (by rfl) (by rfl) (by rfl) (by rfl) Tryz.func196 (by kernel_rfl) (by rfl) (HCi.out w1 HA1.out HRd1.out) (fun e w2 hh=>⟨_,hh.bad.1,rfl,HErr.out w1 w2 HA1.out hh.bad.2⟩) (.slice none 0 0) ?_
           intro HF))
      all_goals exact HF.out.elim
    |ok vj=>
      obtain⟨vs,j2⟩:=vj
      have HRok:Hid (r=.ok (.mk 6 0 0 ⟨#[]⟩ vs,j+j2)):=HR2.out
      clear HR2
      go_enter Tryz.func174,Tryz.ntmps174
      go_wp2_with fail
      rw[<-HW.out]
      go_region_law (first
        | (refine aN (.tmp 8) 208 (by rfl) (by rfl) (by rfl) Tryz.func189 (by kernel_rfl) (by rfl) HC.out ?_
           intro e w1 hh
           obtain⟨v,he,hv,hrd,ha⟩:=hh.good
           clear hh
           replace hv:v=.int .i64 (m:Nat):=hv
           subst hv
           refine⟨_,he,?_⟩
           clear he
           have HA1:=xQ ha
           have HRd1:=xQ hrd
           obtain⟨x0',x1',x2',x3'⟩:=HCells.out w1 ha
           have HI1:=xQ (HI.out.step ha hrd hR)
           clear ha hrd)
        | (refine bK (.tmp 7) (.tmp 9) (.tmp 13) 208 3 88 (by rfl) (by rfl) (by rfl) (by rfl) (by rfl) Tryz.func196 (by kernel_rfl) (by rfl) (HCi.out w1 HA1.out HRd1.out) ?_
           intro e w2 hh
           obtain⟨v,he,hv,hrd,ha⟩:=hh.good
           obtain⟨qi,ci,hv2,hown⟩:=hv.open
           clear hh hv
           subst hv2
           refine⟨_,he,?_⟩
           clear he
           have HI2:=xQ (HI1.out.step ha hrd hR)
           have HOn:=xQ hown
           have hs1:=HI1.out.size
           have hs2:=ha.size
           have k2:w2.cell? ⟨w.1.size,0,none⟩=some (.int .i64 6):=aa HI2.out.b0 0
           have t0:w2.cell? ⟨w.1.size+1,0,none⟩=some (.int .i64 0):=aa HI2.out.b1 0
           have tf0:w2.frozen? ⟨w.1.size+1,0,none⟩=false:=ac HI2.out.b1 0
           have t1:w2.cell? ⟨w.1.size+1,1,none⟩=some (.int .i64 0):=aa HI2.out.b1 1
           have tf1:w2.frozen? ⟨w.1.size+1,1,none⟩=false:=ac HI2.out.b1 1
           have t2:w2.cell? ⟨w.1.size+1,2,none⟩=some (.float .f64 0):=aa HI2.out.b1 2
           have tf2:w2.frozen? ⟨w.1.size+1,2,none⟩=false:=ac HI2.out.b1 2
           have t3:w2.cell? ⟨w.1.size+1,3,none⟩=some (.string ⟨#[]⟩):=aa HI2.out.b1 3
           have tf3:w2.frozen? ⟨w.1.size+1,3,none⟩=false:=ac HI2.out.b1 3
           have t4:w2.cell? ⟨w.1.size+1,4,none⟩=some (.slice none 0 0):=aa HI2.out.b1 4
           have tf4:w2.frozen? ⟨w.1.size+1,4,none⟩=false:=ac HI2.out.b1 4
           clear ha hrd hown))
      all_goals
        have HFin:=xQ (iF (k:=6) (i:=0) (b:=0) (t:=⟨#[]⟩) (q:=qi) (n:=vs.length) (c:=ci) (x:=.mk 6 0 0 ⟨#[]⟩ vs) (N:=w.1.size+1) hR (by omega) HI2.out.b1 (HOn.out 6) (fun i hi=>⟨by omega,by omega⟩) HI2.out.rd HI2.out.aside)
        clear x0 x1 x2 x3 x0' x1' x2' x3'
        go_wp2
        obtain⟨f1,f2,f3,f4⟩:=HFin.out
        refine bodyPost_ret (v:=.agg (cells5 6 0 0 ⟨#[]⟩ qi vs.length ci)) (results_cell_row rfl _ _ (w.1.size+1) _ _ _ _ rfl f1 Tryz.underlying47 rfl (by kernel_rfl)) rfl ?_
        rw[HRok.out]
        refine⟨_,rfl,f2,?_,f4⟩
        rw[<-List.drop_drop]
        exact f3
theorem po(x:Ty)(hx:fI x)(l:L8)(A R:Nat)(w:World)(u:AV)(hf:ce w R u (.mk 7 [x]))(h:aC L w A R l):Calls Tryz.prog 175 #[.pointer (some ⟨R,0,none⟩),.agg u] w (bP L w A R l (Sch.rdV (.mk 7 [x]) l) (isV w)):=by
  have hR:=h.lt
  obtain⟨g,off,c,k',q',n',c',rfl,hfx,hRg,hgw,y0,y1⟩:=hf.one
  unfold ar
  obtain⟨W,hW⟩:∃W,W=(w.alloc (.cells #[.int .i64 7,.slice (some ⟨g,off,none⟩) 1 c] 88)).alloc (.cells #[.int .i64 0,.int .i64 0,.float .f64 0,.string ⟨#[]⟩,.slice none 0 0] 47):=⟨_,rfl⟩
  have HI:Hid (ba L w W A R #[.int .i64 7,.slice (some ⟨g,off,none⟩) 1 c] l):=by rw[hW];exact bl _ h
  have HW:=xQ hW
  obtain⟨r,hr⟩:∃r,r=Sch.rdV (.mk 7 [x]) l:=⟨_,rfl⟩
  have HR0:=xQ (hr.trans (jX 7 (by omega) x l))
  rw[<-hr]
  have HR:Hid (r=au (aT 256 3 l) fun m j=>au (Sch.rdN (Sch.rdV x) m (l.drop j)) fun vs j2=>.ok (.mk 7 0 0 ⟨#[]⟩ vs,j+j2)):=by show _=_;rw[HR0.out,rC]
  have HC:=xQ (l9 256 3 (by omega) l A R W HI.out.rd)
  have HFx:=xQ hfx
  have HX:=xQ hx
  have HCells:Hid (∀W',Aside (fun i=>i=R) W W'->W'.cell? ⟨w.1.size,0,none⟩=some (.int .i64 7)∧W'.cell? ⟨w.1.size,1,none⟩=some (.slice (some ⟨g,off,none⟩) 1 c)∧W'.cell? ⟨g,off,none⟩=some (.int .i64 k')∧W'.cell? ⟨g,off+1,none⟩=some (.slice q' n' c')):=fun W' ha=>by
    have hs:=HI.out.size
    have hgW:g<W.1.size:=by omega
    refine⟨?_,?_,?_,?_⟩
    · rw[ha.cell (show w.1.size<W.1.size by omega) (show ¬w.1.size=R by omega)];exact aa HI.out.b0 0
    · rw[ha.cell (show w.1.size<W.1.size by omega) (show ¬w.1.size=R by omega)];exact aa HI.out.b0 1
    · rw[ha.cell (show g<W.1.size from hgW) (show ¬g=R by omega),HI.out.aside.cell hgw (show ¬g=R by omega)];exact y0
    · rw[ha.cell (show g<W.1.size from hgW) (show ¬g=R by omega),HI.out.aside.cell hgw (show ¬g=R by omega)];exact y1
  obtain⟨m0,hm0⟩:∃m,m=aT 256 3 l:=⟨_,rfl⟩
  rw[<-hm0] at HR HC
  have HM:=xQ hm0
  clear hr hm0 h hW hfx hx y0 y1 hf HR0
  cases m0 with
  |error er=>
    have HR2:Hid (r=.error er):=HR.out
    clear HR
    go_enter Tryz.func175,Tryz.ntmps175
    go_wp2_with fail
    rw[<-HW.out]
    refine HC.out.mono ?_
    intro e w1 hh
    obtain⟨he,ha⟩:=hh.bad
    subst he
    clear hh
    have HA:=xQ (HI.out.aside.trans ha (fun _ _ h=>h))
    clear ha HC
    go_wp2
    rw[HR2.out]
    exact⟨rfl,rfl,HA.out⟩
  |ok mj=>
    obtain⟨m,j⟩:=mj
    have hm256:m<=256:=count_le HM.out.symm
    have HR2:Hid (r=au (Sch.rdN (Sch.rdV x) m (l.drop j)) fun vs j2=>.ok (.mk 7 0 0 ⟨#[]⟩ vs,j+j2)):=HR.out
    clear HR HM
    go_enter Tryz.func175,Tryz.ntmps175
    go_wp2_with fail
    rw[<-HW.out]
    refine HC.out.mono ?_
    intro e w1 hh
    obtain⟨v,he,hv,hrd,ha⟩:=hh.good
    clear hh
    replace hv:v=.int .i64 (m:Nat):=hv
    subst hv
    subst he
    obtain⟨x0,x1,x2,x3⟩:=HCells.out w1 ha
    have HI1:=xQ (HI.out.step ha hrd hR)
    have HCi:=xQ (lT x HX.out m hm256 (l.drop j) A R w1.drew _ (((HFx.out.aside HI.out.aside).aside ha).on xZ.drew) hrd.drew)
    unfold ar at HCi
    have q0:w1.cell? ⟨w.1.size+1,0,none⟩=some (.int .i64 0):=aa HI1.out.b1 0
    have qf0:w1.frozen? ⟨w.1.size+1,0,none⟩=false:=ac HI1.out.b1 0
    have q1:w1.cell? ⟨w.1.size+1,1,none⟩=some (.int .i64 0):=aa HI1.out.b1 1
    have qf1:w1.frozen? ⟨w.1.size+1,1,none⟩=false:=ac HI1.out.b1 1
    have q2:w1.cell? ⟨w.1.size+1,2,none⟩=some (.float .f64 0):=aa HI1.out.b1 2
    have qf2:w1.frozen? ⟨w.1.size+1,2,none⟩=false:=ac HI1.out.b1 2
    have q3:w1.cell? ⟨w.1.size+1,3,none⟩=some (.string ⟨#[]⟩):=aa HI1.out.b1 3
    have qf3:w1.frozen? ⟨w.1.size+1,3,none⟩=false:=ac HI1.out.b1 3
    have q4:w1.cell? ⟨w.1.size+1,4,none⟩=some (.slice none 0 0):=aa HI1.out.b1 4
    have qf4:w1.frozen? ⟨w.1.size+1,4,none⟩=false:=ac HI1.out.b1 4
    clear ha hrd HC HW HCells HFx HX
    obtain⟨m1,hm1⟩:∃m1,m1=Sch.rdN (Sch.rdV x) m (l.drop j):=⟨_,rfl⟩
    rw[<-hm1] at HR2 HCi
    clear hm1
    cases m1 with
    |error er=>
      have HErr:Hid (r=.error er):=HR2.out
      clear HR2
      go_wp2_with fail
      go_region_law (first
        | (refine cE (.tmp 10) (.tmp 11) (.tmp 15) 208 3 88 (by rfl) (by rfl) (by rfl) (by rfl) (by rfl) Tryz.func196 (by kernel_rfl) (by rfl) HCi.out (fun e w2 hh=>⟨_,hh.bad.1,rfl,by rw[HErr.out];exact⟨rfl,HI1.out.aside.drew.trans hh.bad.2 (fun _ _ h=>h)⟩⟩) (.slice none 0 0) ?_
           intro HF)
        |fail)
      all_goals exact HF.out.elim
    |ok vj=>
      obtain⟨vs,j2⟩:=vj
      have HRok:Hid (r=.ok (.mk 7 0 0 ⟨#[]⟩ vs,j+j2)):=HR2.out
      clear HR2
      go_wp2_with fail
      go_region_law (first
        | (refine bK (.tmp 10) (.tmp 11) (.tmp 15) 208 3 88 (by rfl) (by rfl) (by rfl) (by rfl) (by rfl) Tryz.func196 (by kernel_rfl) (by rfl) HCi.out ?_
           intro e w2 hh
           obtain⟨v,he,hv,hrd,ha⟩:=hh.good
           obtain⟨qi,ci,hv2,hown⟩:=hv.open
           clear hh hv
           subst hv2
           refine⟨_,he,?_⟩
           clear he
           have HI2:=xQ (HI1.out.drew.step ha hrd hR)
           have HOn:=xQ hown
           have hs1:=HI1.out.size
           have hs2:=ha.size
           have k2:w2.cell? ⟨w.1.size,0,none⟩=some (.int .i64 7):=aa HI2.out.b0 0
           have t0:w2.cell? ⟨w.1.size+1,0,none⟩=some (.int .i64 0):=aa HI2.out.b1 0
           have tf0:w2.frozen? ⟨w.1.size+1,0,none⟩=false:=ac HI2.out.b1 0
           have t1:w2.cell? ⟨w.1.size+1,1,none⟩=some (.int .i64 0):=aa HI2.out.b1 1
           have tf1:w2.frozen? ⟨w.1.size+1,1,none⟩=false:=ac HI2.out.b1 1
           have t2:w2.cell? ⟨w.1.size+1,2,none⟩=some (.float .f64 0):=aa HI2.out.b1 2
           have tf2:w2.frozen? ⟨w.1.size+1,2,none⟩=false:=ac HI2.out.b1 2
           have t3:w2.cell? ⟨w.1.size+1,3,none⟩=some (.string ⟨#[]⟩):=aa HI2.out.b1 3
           have tf3:w2.frozen? ⟨w.1.size+1,3,none⟩=false:=ac HI2.out.b1 3
           have t4:w2.cell? ⟨w.1.size+1,4,none⟩=some (.slice none 0 0):=aa HI2.out.b1 4
           have tf4:w2.frozen? ⟨w.1.size+1,4,none⟩=false:=ac HI2.out.b1 4
           clear ha hrd hown)
        |fail)
      all_goals
        have HFin:=xQ (iF (k:=7) (i:=0) (b:=0) (t:=⟨#[]⟩) (q:=qi) (n:=vs.length) (c:=ci) (x:=.mk 7 0 0 ⟨#[]⟩ vs) (N:=w.1.size+1) hR (by omega) HI2.out.b1 (HOn.out 7) (fun i hi=>⟨by have:=hi.1;have:w1.drew.1.size=w1.1.size:=rfl;omega,hi.2⟩) HI2.out.rd HI2.out.aside)
        go_wp2
        obtain⟨f1,f2,f3,f4⟩:=HFin.out
        refine bodyPost_ret (v:=.agg (cells5 7 0 0 ⟨#[]⟩ qi vs.length ci)) (results_cell_row rfl _ _ (w.1.size+1) _ _ _ _ rfl f1 Tryz.underlying47 rfl (by kernel_rfl)) rfl ?_
        rw[HRok.out]
        refine⟨_,rfl,f2,?_,f4⟩
        rw[<-List.drop_drop]
        exact f3
end
end
section
open Go.RowKit
attribute [local go_sem] af
theorem nR{F:Nat->Prop}{i:Int}{b:Nat}{t:ByteArray}{p:OA}{c:Nat}{x:V}(h:aR w F #[.int .i64 k,.int .i64 i,.float .f64 b,.string t,.slice p n c] x):aR w F (cells5 k i b t p n c) x:=h
section
variable {L:L8}
theorem cP(k:Nat)(f:FuncId)(hk:k<8)(hf:jl[k]?=some (.func (.func f) #[] #[]))(l:L8)(A R:Nat)(w:World)(p:OA)(n c:Nat)(h:aC L w A R l)(rr:Except Nat (V×Nat))(hE:∀(args:AV) (w:World),(callFunc f args).run Tryz.prog w=.ok (.enter f args) w)(hc:∀w',Below w.1.size w w'->aC L w' A R l->Calls Tryz.prog f #[.pointer (some ⟨R,0,none⟩),.agg #[.int .i64 k,.slice p n c]] w' (bP L w' A R l rr (isV w'))):
    Calls Tryz.prog 121 #[.pointer (some ⟨R,0,none⟩),.agg #[.int .i64 k,.slice p n c]] w (bP L w A R l rr (isV w)):=by
  have hR:=h.lt
  obtain⟨W,hW⟩:∃W,W=(w.alloc (.cells #[.int .i64 k,.slice p n c] 88)).alloc (.cells #[.int .i64 0,.int .i64 0,.float .f64 0,.string ⟨#[]⟩,.slice none 0 0] 47):=⟨_,rfl⟩
  have HI:Hid (ba L w W A R #[.int .i64 k,.slice p n c] l):=by rw[hW];exact bl _ h
  have HBW:Hid (Below w.1.size w W):=by rw[hW];exact xY.alloc (by simp) _
  obtain⟨T,pp,cc,a,h1,-⟩:=HI.out.rd.out
  have c0:W.cell? ⟨R,0,none⟩=some (.slice (some ⟨T,0,none⟩) 8 8):=aa h1.b0 0
  have ck:W.cell? ⟨T,k,none⟩=some (.func (.func f) #[] #[]):=(aa h1.b1 k).trans hf
  have k0:W.cell? ⟨w.1.size,0,none⟩=some (.int .i64 k):=aa HI.out.b0 0
  have k1:W.cell? ⟨w.1.size,1,none⟩=some (.slice p n c):=aa HI.out.b0 1
  have hki:(k:Int)<8:=by omega
  have HC:=xQ (hc W.drew HBW.out.drew HI.out.rd.drew)
  have HE:=xQ hE
  have HW:=xQ hW
  obtain⟨q0,q1,q2,q3,q4⟩:=cQ5 HI.out.b1
  have qf0:=ac HI.out.b1 0
  have qf1:=ac HI.out.b1 1
  have qf2:=ac HI.out.b1 2
  have qf3:=ac HI.out.b1 3
  have qf4:=ac HI.out.b1 4
  clear h hW hc hE h1 hf
  cases rr with
  |error er=>
    go_enter Tryz.func121,Tryz.ntmps121
    go_wp2_with fail
    rw[<-HW.out]
    clear HW
    go_region_law (first
      | (refine jP (.tmp 12) (.tmp 13) (.tmp 14) 208 88 (by rfl) (by rfl) (by rfl) (by rfl) (by rfl) HE.out HC.out (fun e w1 hh=>⟨_,hh.bad.1,rfl,rfl,HI.out.aside.drew.trans hh.bad.2 (fun _ _ h=>h)⟩) (.agg #[.int .i64 0,.int .i64 0,.float .f64 0,.string ⟨#[]⟩,.slice none 0 0]) ?_
         intro HF)
      |fail)
    all_goals exact HF.out.elim
  |ok xj=>
    obtain⟨x,j⟩:=xj
    go_enter Tryz.func121,Tryz.ntmps121
    go_wp2_with fail
    rw[<-HW.out]
    clear HW
    go_region_law (first
      | (refine gy (.tmp 12) (.tmp 13) (.tmp 14) 208 88 (by rfl) (by rfl) (by rfl) (by rfl) (by rfl) HE.out HC.out ?_
         intro e w1 hh
         obtain⟨v,he,hv,hrd,ha⟩:=hh.good
         obtain⟨u,hv,hown⟩:=hv.open
         clear hh
         obtain⟨k9,i9,b9,t9,p9,n9,c9,hu⟩:=hown.shape
         subst hu
         subst hv
         unfold cells5 at he hown
         refine⟨_,he,?_⟩
         clear he
         have HI1:=xQ (HI.out.drew.step ha hrd hR)
         have HOn:=xQ hown
         have hsW:=HI.out.size
         have hs1:=ha.size
         obtain⟨t0,t1,t2,t3,t4⟩:=cQ5 HI1.out.b1
         have tf0:=ac HI1.out.b1 0
         have tf1:=ac HI1.out.b1 1
         have tf2:=ac HI1.out.b1 2
         have tf3:=ac HI1.out.b1 3
         have tf4:=ac HI1.out.b1 4
         clear ha hrd hown)
      |fail)
    all_goals
      have hsd:W.drew.1.size=W.1.size:=rfl
      have HFin:=xQ (iF (N:=w.1.size+1) hR (by omega) HI1.out.b1 (nR HOn.out) (fun i hi=>⟨by have:=hi.1;omega,hi.2⟩) HI1.out.rd HI1.out.aside)
      go_wp2
      obtain⟨f1,f2,f3,f4⟩:=HFin.out
      refine bodyPost_ret (v:=.agg (cells5 k9 i9 b9 t9 p9 n9 c9)) (results_cell_row rfl _ _ (w.1.size+1) _ _ _ _ rfl f1 Tryz.underlying47 rfl (by kernel_rfl)) rfl ?_
      exact⟨_,rfl,f2,f3,f4⟩
theorem uD:∀(t:Ty) (d:Nat),Ty.check d t=0->fI t:=by
 intro t
 refine Ty.ind (P:=fun t=>∀(d:Nat),Ty.check d t=0->fI t) ?_ t
 rintro k ts ih d hd L l A R w u hf hr
 obtain⟨hd4,hk,htt⟩:=Sch.ty_open hd
 rcases htt with ⟨h67,rfl⟩ | ⟨h67,y,rfl,hy⟩
 ·obtain⟨k',p,n,c,hu⟩:=hf.shape
  have hk':k'=k:=by
   obtain⟨w0,h1,-⟩:=hf.out
   obtain⟨p2,c2,hu2,-⟩:=h1.open
   rw[hu] at hu2
   unfold ar at hu2
   simp only[Array.mk.injEq,List.cons.injEq,Value.int.injEq,true_and] at hu2
   exact hu2.1
  subst hk' hu
  unfold ar
  have hcase:k'=1∨k'=2∨k'=3∨k'=4∨k'=5:=by omega
  have e:Sch.rdV (.mk k' []) l=Sch.scalar k' l:=by rw[Sch.rdV_mk,if_pos (by omega)]
  rw[e]
  rcases hcase with h | h | h | h | h <;> subst h
  ·exact cP 1 169 (by omega) rfl l A R w p n c hr _ (enters Tryz.func169 (by kernel_rfl) rfl) (fun w' _ h=>pt l A R w' p n c h)
  ·exact cP 2 170 (by omega) rfl l A R w p n c hr _ (enters Tryz.func170 (by kernel_rfl) rfl) (fun w' _ h=>qZ l A R w' p n c h)
  ·exact cP 3 171 (by omega) rfl l A R w p n c hr _ (enters Tryz.func171 (by kernel_rfl) rfl) (fun w' _ h=>mN l A R w' p n c h)
  ·exact cP 4 172 (by omega) rfl l A R w p n c hr _ (enters Tryz.func172 (by kernel_rfl) rfl) (fun w' _ h=>pn l A R w' p n c h)
  ·have e5:Sch.scalar 5 l=gj 5 l:=ll l
   rw[e5]
   exact cP 5 173 (by omega) rfl l A R w p n c hr _ (enters Tryz.func173 (by kernel_rfl) rfl) (fun w' _ h=>iq 5 l A R w' p n c h)
 ·obtain⟨g,off,c,k',q',n',c',hu,-⟩:=hf.one
  have hv:=ih y (by simp) (d+1) hy
  subst hu
  unfold ar at hf ⊢
  rcases h67 with h | h <;> subst h
  ·exact cP 6 174 (by omega) rfl l A R w _ _ c hr _ (enters Tryz.func174 (by kernel_rfl) rfl) (fun w' hb h=>qY y hv l A R w' _ (hf.on hb) h)
  ·exact cP 7 175 (by omega) rfl l A R w _ _ c hr _ (enters Tryz.func175 (by kernel_rfl) rfl) (fun w' hb h=>po y hv l A R w' _ (hf.on hb) h)
end
end
section
open Go.RowKit
attribute [local go_sem] af
theorem dZ(w:World):Calls Tryz.prog 150 #[] w fun e w'=>e=.returned (.slice (some ⟨w.1.size,0,none⟩) 8 8)∧w'=w.alloc (.cells jl 242):=by
 go_enter Tryz.func150,Tryz.ntmps150
 go_wp2_with fail
 go_ret
 exact⟨rfl,rfl⟩
theorem aC.set{L:L8}(h:aC L w A R l){j:Nat}{C:AV}{ty:TypeId}{fr:Nat×Nat}(hj:w.1[j]?=some (.cells C ty fr))(hC:C.size≠8)(hR:j≠R)(hA:A<=j)(m:Nat)(u:Value):aC L (w.setCell ⟨j,m,none⟩ u) A R l:=by
 obtain⟨T,p,c,a,h1,h2⟩:=h.out
 have hT:T≠j:=by
  intro he
  have:=h1.b1
  rw[he,hj] at this
  injection this with this
  injection this with this
  rw[this] at hC
  exact hC rfl
 have ha:Aside (fun i=>i=j) w (w.setCell ⟨j,m,none⟩ u):=ai _ _ _ _
 have hRw:=ao h1.b0
 have hTw:=ao h1.b1
 refine⟨⟨T,p,c,a,⟨(ha.block R hRw (by omega)).trans h1.b0,(ha.block T hTw (by omega)).trans h1.b1,?_,h1.cap,h1.far,h1.tab,h1.pos⟩,h2⟩,h.small,h.low⟩
 rcases h1.lies with h3 | ⟨b,o,rfl,hb,hcs⟩
 ·exact .inl h3
 ·by_cases h0:L=[]
  ·exact .inl h0
  ·have hbA:=h1.far h0 _ rfl
   refine .inr ⟨b,o,rfl,Nat.lt_of_lt_of_le hb ha.size,fun i hi=>?_⟩
   rw[World.cell?_of_block (w:=w) (ha.block b hb (by show ¬b=j;simp only at hbA;omega))]
   exact hcs i hi
def jK(w:World)(A:Nat)(l:L8)(a:Int)(e:Ending)(w':World):Prop :=
 if a<0∨(l.length:Int)<a then e=.panicked (cY 30)∧Below w.1.size w w'
 else e=.returned (.pointer (some ⟨w.1.size+1,0,none⟩))∧aC l w' A (w.1.size+1) (l.drop a.toNat)∧Below w.1.size w w'∧w.1.size+2<=w'.1.size
theorem pq(l:L8)(q:OA)(c:Nat)(a:Int)(A:Nat)(w:World)(hl:l.length<=140737488351232)(hlc:l.length<=c)(hat:At w q l)(hA:A<=w.1.size)(hfar:l≠[]->∀d,q=some d->d.block<A)(ha1:-9223372036854775808<=a)(ha2:a<=9223372036854775807):
  Calls Tryz.prog 120 #[.slice q l.length c,.int .i64 a] w (jK w A l a):=by
 obtain⟨W,hW⟩:∃W,W=(w.alloc (.cells jl 242)).alloc (.cells #[.slice (some ⟨w.1.size,0,none⟩) 8 8,.slice q l.length c,.int .i64 a] 213):=⟨_,rfl⟩
 have HB:Hid (Below w.1.size w W):=by rw[hW];exact xY.alloc (by simp) _
 have hsz:W.1.size=w.1.size+2:=by rw[hW];simp
 have b0:W.1[w.1.size+1]?=some (.cells #[.slice (some ⟨w.1.size,0,none⟩) 8 8,.slice q l.length c,.int .i64 a] 213 (0,0)):=by
  have:=ap (w.alloc (.cells jl 242)) (.cells #[.slice (some ⟨w.1.size,0,none⟩) 8 8,.slice q l.length c,.int .i64 a] 213)
  rw[hW];simpa using this
 have b1:W.1[w.1.size]?=some (.cells jl 242 (0,0)):=by
  rw[hW,az _ _ (by simp)]
  exact ap w _
 have HOk:Hid (¬(a<0∨(l.length:Int)<a)->aC l W A (w.1.size+1) (l.drop a.toNat)):=fun h0=>by
  have ea:((a.toNat:Nat):Int)=a:=by omega
  exact⟨⟨w.1.size,q,c,a.toNat,⟨by rw[ea];exact b0,b1,hat.on HB.out,hlc,hfar,by omega,by omega⟩,rfl⟩,hl,by omega⟩
 have HSz:=xQ hsz
 have HW:=xQ hW
 clear hW b0 b1 hat hfar hsz
 by_cases h0:a<0∨(l.length:Int)<a
 ·have e:jK w A l a=fun e w'=>e=.panicked (cY 30)∧Below w.1.size w w':=by
   funext e w'
   unfold jK
   rw[if_pos h0]
  rw[e]
  clear e
  by_cases h1:a<0
  ·have g0:decide (0<=a)=false:=decide_eq_false (by omega)
   clear h0 HOk
   go_enter Tryz.func120,Tryz.ntmps120
   go_wp2_with fail
   refine(dZ _).mono ?_
   rintro e w1 ⟨rfl,hw1⟩
   rw[hw1]
   clear hw1 w1
   go_wp2_with fail
   rw[<-HW.out]
   refine(cK _ 30 _).mono ?_
   rintro e w1 ⟨rfl,hw1⟩
   rw[hw1]
   clear hw1 w1
   go_wp2
   exact⟨rfl,rfl,HB.out⟩
  ·have g0:decide (0<=a)=true:=decide_eq_true (by omega)
   have g1:decide (a<=(l.length:Int))=false:=decide_eq_false (by omega)
   clear h0 HOk
   go_enter Tryz.func120,Tryz.ntmps120
   go_wp2_with fail
   refine(dZ _).mono ?_
   rintro e w1 ⟨rfl,hw1⟩
   rw[hw1]
   clear hw1 w1
   go_wp2_with fail
   rw[<-HW.out]
   refine(cK _ 30 _).mono ?_
   rintro e w1 ⟨rfl,hw1⟩
   rw[hw1]
   clear hw1 w1
   go_wp2
   exact⟨rfl,rfl,HB.out⟩
 ·have e:jK w A l a=fun e w'=>e=.returned (.pointer (some ⟨w.1.size+1,0,none⟩))∧aC l w' A (w.1.size+1) (l.drop a.toNat)∧Below w.1.size w w'∧w.1.size+2<=w'.1.size:=by
   funext e w'
   unfold jK
   rw[if_neg h0]
  rw[e]
  clear e
  have g0:decide (0<=a)=true:=decide_eq_true (by omega)
  have g1:decide (a<=(l.length:Int))=true:=decide_eq_true (by omega)
  have HRd:=xQ (HOk.out h0)
  clear HOk h0
  go_enter Tryz.func120,Tryz.ntmps120
  go_wp2_with fail
  refine(dZ _).mono ?_
  rintro e w1 ⟨rfl,hw1⟩
  rw[hw1]
  clear hw1 w1
  go_wp2_with fail
  rw[<-HW.out]
  refine(cW _ 30 _).mono ?_
  rintro e w1 ⟨rfl,hw1⟩
  rw[hw1]
  clear hw1 w1
  go_wp2
  go_ret
  exact⟨rfl,HRd.out,HB.out,by rw[HSz.out];exact xX⟩
def eu(w:World)(g o:Nat)(k i:Int)(b:Nat)(t:ByteArray)(s:Value):World:=((((w.setCell ⟨g,o,none⟩ (.int .i64 k)).setCell ⟨g,o+1,none⟩ (.int .i64 i)).setCell ⟨g,o+2,none⟩ (.float .f64 b)).setCell ⟨g,o+3,none⟩ (.string t)).setCell ⟨g,o+4,none⟩ s
theorem lN(w:World)(g o:Nat)(k i:Int)(b:Nat)(t:ByteArray)(s:Value):Aside (fun j=>j=g) w (eu w g o k i b t s):=by
 have h0:Aside (fun j=>j=g) w (w.setCell ⟨g,o,none⟩ (.int .i64 k)):=ai _ _ _ _
 have h1:=h0.trans (ai _ g (o+1) (.int .i64 i)) (fun _ _ h=>h)
 have h2:=h1.trans (ai _ g (o+2) (.float .f64 b)) (fun _ _ h=>h)
 have h3:=h2.trans (ai _ g (o+3) (.string t)) (fun _ _ h=>h)
 exact h3.trans (ai _ g (o+4) s) (fun _ _ h=>h)
theorem na(w:World)(g o:Nat)(k i:Int)(b:Nat)(t:ByteArray)(s:Value):(eu w g o k i b t s).1.size=w.1.size:=by simp[eu,World.setCell]
theorem nd{B g cap:Nat}{xs:List Value}{z0 z1 z2 z3 z4:Value}(hx:xs.length=n*5)(h:w.ownsRow B 47 5 (.slice (some ⟨g,0,none⟩) (n+1) cap) (n+1) (xs++[z0,z1,z2,z3,z4]))(k i:Int)(b:Nat)(t:ByteArray)(q:OA)(m c:Nat):
  (∀j,j<5->∃z,w.cell? ⟨g,n*5+j,none⟩=some z)∧(∀j,w.frozen? ⟨g,j,none⟩=false) ∧
  (eu w g (n*5) k i b t (.slice q m c)).ownsRow B 47 5 (.slice (some ⟨g,0,none⟩) (n+1) cap) (n+1) (xs++(cells5 k i b t q m c).toList):=by
 rcases h.2 with ⟨h1,_⟩ | ⟨g',cap',cur,hv,hb,hg,hn,hc,hs,ht⟩
 ·cases h1
 ·injection hv with hv1 _ hv2
  injection hv1 with hv1
  injection hv1 with hv1
  subst hv1 hv2
  have hcur:cur.toList=xs++(z0::z1::z2::z3::z4::cur.toList.drop ((n+1)*5)):=by
   have h3:=(List.take_append_drop ((n+1)*5) cur.toList).symm
   rw[ht,List.append_assoc] at h3
   exact h3
  obtain⟨C⟩:=cur
  simp only at hcur
  obtain⟨rest,hrest⟩:∃r,r=C.drop ((n+1)*5):=⟨_,rfl⟩
  rw[<-hrest] at hcur
  have hset:∀(ys:List Value) (j:Nat) (v:Value),(xs++ys).set (n*5+j) v=xs++ys.set j v:=fun ys j v=>by
   rw[<-hx,List.set_append_right _ _ (by omega),Nat.add_sub_cancel_left]
  refine⟨fun j hj=>?_,fun j=>ac hg j,?_,.inr ⟨g,cap,_,rfl,hb,al (al (al (al (al hg (n*5) (.int .i64 k)) (n*5+1) (.int .i64 i)) (n*5+2) (.float .f64 b)) (n*5+3) (.string t)) (n*5+4) (.slice q m c),hn,hc,by simpa using hs,?_⟩⟩
  ·have hlt:n*5+j<C.length:=by rw[hcur,List.length_append,hx];simp;omega
   exact⟨C[n*5+j],by rw[cell_of_row w g (n*5+j) ⟨C⟩ 47 (0,0) hg];simp[hlt]⟩
  ·rw[List.length_append,hx]
   unfold cells5
   simp
   omega
  ·have h0:=hset (z0::z1::z2::z3::z4::rest) 0
   simp only[Nat.add_zero] at h0
   simp only[Array.set!_eq_setIfInBounds,Array.toList_setIfInBounds]
   rw[hcur,h0,hset,hset,hset,hset]
   unfold cells5
   have e:(n+1)*5=xs.length+5:=by rw[hx];omega
   rw[e,List.take_append,List.take_of_length_le (by omega),Nat.add_sub_cancel_left]
   simp
end
end Go.Proofs.YtceomhodhmcknaaGreatDoor
