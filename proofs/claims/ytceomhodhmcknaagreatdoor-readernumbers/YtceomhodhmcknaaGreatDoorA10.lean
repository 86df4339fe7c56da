import Derived.Test.YtceomhodhmcknaaGreatDoorB46
import Derived.Test.YtceomhodhmcknaaGreatDoorB45
set_option maxRecDepth 100000
set_option maxHeartbeats 4000000
namespace Go.Proofs.YtceomhodhmcknaaGreatDoor
variable{B M a n:Nat}{w1:World}{v:Value}
section
open Go.RowKit Go.Maps
structure WhI(w wr:World)(B g x k:Nat)(v:Value)(s:Dv.St)(G:Nat->Prop)(j:Nat)(X:Sc.Pos):Prop where
 dev:aS wr B g v { s with told:=s.told+X.read } x k
 walk:∃v' g',ax wr w.1.size (w.1.size+1) w.1.size j v' g' X.wk G
 aside:Aside (fun i=>i=g) w wr
 goes:Sc.goes s.b j=some X
section
variable {w:World} {B g x k:Nat} {v:Value} {s:Dv.St} {G:Nat->Prop}
theorem ax.far{s:Wk}{g:Int->Option Value}{G:Nat->Prop}(h:ax w1 B a M n v g s G){i:Nat}(hi:dW a M v i):B<=i:=by
 rcases hi with hi | hi | hi
 ·rw[hi];exact h.base.1
 ·rw[hi];exact h.base.2
 ·exact(h.ents.lt i hi).1
theorem WhI.after{w2:World}{Y:Dv.St}{sw:Wk}{v1:Value}{g1:Int->Option Value}(hd:aS w1 B g v Y x k)(hw:ax w1 w.1.size (w.1.size+1) w.1.size n v1 g1 sw G)(ha:Aside (fun i=>i=g) w w1)(ha2:Aside (dW (w.1.size+1) w.1.size v1) w1 w2)(hG:∀i,i=g∨v.ownBlock=some i->G i)(hg:g<w.1.size):
  aS w2 B g v Y x k∧Aside (fun i=>i=g) w w2:=by
 refine⟨hd.aside ha2 (fun hc=>?_) (fun i hi hc=>?_),ha.trans ha2 (fun i hi hc=>?_)⟩
 ·have:=hw.far hc;omega
 ·have h3:=hw.off i (hG i (.inr hi))
  rcases hc with hc | hc | hc
  ·exact h3.1 hc
  ·exact h3.2.1 hc
  ·exact h3.2.2 hc
 ·have:=hw.far hc;omega
theorem uY(h:aS w B g v s x k)(hd:s.down=false)(hl:s.b.length<=2097152)(ht:s.told<=1000000000000)(hv:Hv w)(hB:1<B)(hBw:B<=w.1.size)(hG:∀i,i=g∨v.ownBlock=some i->G i)(hGl:∀i,G i->i<w.1.size):
  Calls Tryz.prog 9 #[.pointer (some ⟨g,0,none⟩)] w fun e w'=>∃j X er v' g',Sc.goes s.b j=some X∧Sc.step s.b X=.error er∧e=.returned (.tuple #[.pointer (some ⟨w.1.size+1,0,none⟩),.int .i64 (X.at_:Nat),.int .i64 (er:Nat)])∧ax w' w.1.size (w.1.size+1) w.1.size (j+1) v' g' X.wk G∧aS w' B g v { s with told:=s.told+X.read+Sc.reads s.b X.at_ } x k∧Aside (fun i=>i=g) w w':=by
 have HU:=xQ (kUp h)
 rw[hd] at HU
 have HN:=xQ (rK w G hGl)
 have HH:=xQ h
 have HHv:=xQ hv
 have HG:=xQ hG
 have HGl:=xQ hGl
 have hgl:=h.lt
 have hbase:=h.base
 have HD:=xQ hd
 clear h hv hG hGl hd
 go_enter Tryz.func9,Tryz.ntmps9
 go_wp2_with fail
 refine HU.out.mono ?_
 rintro e w' ⟨rfl,hw'⟩
 rw[hw']
 clear hw' w' HU
 go_wp2_with fail
 refine HN.out.mono ?_
 rintro e w1 ⟨rfl,hk1,hb1,hs1⟩
 have HI1:Hid (WhI w w1 B g x k v s G 0 Sc.begin_):=⟨HH.out.below hb1,⟨_,_,hk1⟩,ag hb1 _,rfl⟩
 clear hk1 hb1 hs1 HN HH
 go_wp2_with fail
 go_loopw [6] (fun v6 wr=>∃j X,v6=.int .i64 (X.at_:Nat)∧Hid (WhI w wr B g x k v s G j X)) (fun v6 _=>s.b.length-(intOf v6).toNat)
 case atStart=>exact⟨0,Sc.begin_,rfl,HI1⟩
 case round=>
  obtain⟨j,X,rfl,HI⟩:=hrel
  obtain⟨hgd,hat,h8,hrd⟩:=Sc.goes_good HI.out.goes
  obtain⟨v',g',hwk⟩:=HI.out.walk
  have hA:=kAt HI.out.dev HD.out hl (by show s.told+X.read+s.b.length<=_;omega) (HHv.out.on (HI.out.aside.below hBw (fun i hi hc=>by omega)) hB) hB (X.at_:Nat)
  obtain⟨A,hAA⟩:∃A,A=X.at_:=⟨_,rfl⟩
  have HSt:Hid (Sc.step s.b X=match Sc.at_ s.b (X.at_:Nat) with
   |.error e=>.error e
   |.ok (f,n)=>if Sc.may X.wk f (X.at_:Nat)=true then .ok ⟨n,Sc.take X.wk f (X.at_:Nat),X.read+Sc.reads s.b (X.at_:Nat)⟩ else .error 143):=rfl
  have HOk:Hid (∀f n,Sc.at_ s.b (X.at_:Nat)=.ok (f,n)->f.wf∧n<=s.b.length∧X.at_<n):=fun f n he=>by
   obtain⟨a1,a2,a3,a4,a5,a6,a7⟩:=Sc.at_ok he
   exact⟨a4,a6,by rw[a5];omega⟩
  have HNe:Hid (∀er,Sc.at_ s.b (X.at_:Nat)=.error er->er≠0):=fun er he=>oM he
  obtain⟨r,hr⟩:∃r,r=Sc.at_ s.b (X.at_:Nat):=⟨_,rfl⟩
  rw[<-hr] at HSt HOk HNe
  have hA2:Calls Tryz.prog 24 #[.pointer (some ⟨g,0,none⟩),.int .i64 (X.at_:Nat)] wr fun e w'=>AtA r wr e w'∧aS w' B g v { s with told:=s.told+X.read+Sc.reads s.b (X.at_:Nat) } x k∧Aside (fun k=>k=g) wr w':=by rw[hr];exact hA
  have HA:=xQ hA2
  have HWk:=xQ hwk
  have hatI:(X.at_:Int)<=2097152:=by omega
  clear hA hA2 hr hwk hgd hAA A
  go_wp2_with fail
  refine HA.out.mono ?_
  rintro e w2 ⟨hans,hdv,has⟩
  have hw2:ax w2 w.1.size (w.1.size+1) w.1.size j v' g' X.wk G:=HWk.out.aside (has.mono fun i _ hi=>HG.out i (.inl hi)) (fun i hi=>.inl hi) (fun i hi=>Nat.lt_of_lt_of_le (HWk.out.low i hi) has.size)
  have haw:Aside (fun i=>i=g) w w2:=HI.out.aside.trans has (fun _ _ h=>h)
  have HGo:=xQ HI.out.goes
  cases r with
  |error er=>
   replace hans:e=.returned (.tuple #[.agg #[.int .i64 0,.int .i64 0,.slice none 0 0,.int .i64 0,.int .i64 0,.int .i64 0,.slice none 0 0,.int .i64 0,.int .i64 0,.int .i64 0,.slice none 0 0],.int .i64 0,.int .i64 (er:Nat)]):=hans
   subst hans
   have hne:=HNe.out er rfl
   have g0:((er:Int)==0)=false:=by rw[beq_eq_false_iff_ne];omega
   have g1:((er:Int) != 0)=true:=by rw[bne_iff_ne];omega
   have HE:Hid (Sc.step s.b X=.error er):=HSt.out
   have HW2:=xQ hw2
   have HDv:=xQ hdv
   have HAw:=xQ haw
   clear hw2 hdv haw has hne HNe HOk HSt HA HWk HI
   go_wp2
   go_ret3
   have hbo:∀o,Below w2.1.size w2 (w2.alloc o):=fun o=>xZ.alloc xX o
   exact⟨j,X,er,v',g',HGo.out,HE.out,rfl,(HW2.out.on (hbo _)).more (Nat.le_succ j),HDv.out.below (hbo _),HAw.out.alloc _⟩
  |ok y=>
   obtain⟨f,m⟩:=y
   obtain⟨u,rfl,hfo⟩:∃u,e=.returned (.tuple #[.agg u,.int .i64 (m:Nat),.int .i64 0])∧dD w2 wr.1.size u f:=hans
   obtain⟨hwf,hml,hmx⟩:=HOk.out f m rfl
   have hfl:=hfo.lies
   obtain⟨sp,sc,bp,bc,ep,ec,hu,-⟩:=hfo.out
   unfold av at hu
   subst hu
   obtain⟨b0,hb0⟩:∃x,x=f.kind:=⟨_,rfl⟩
   obtain⟨b1,hb1⟩:∃x,x=f.number:=⟨_,rfl⟩
   obtain⟨b2,hbb2⟩:∃x,x=f.cols.length:=⟨_,rfl⟩
   obtain⟨b3,hb3⟩:∃x,x=f.seq:=⟨_,rfl⟩
   obtain⟨b4,hb4⟩:∃x,x=f.first:=⟨_,rfl⟩
   obtain⟨b5,hb5⟩:∃x,x=f.rows:=⟨_,rfl⟩
   obtain⟨b6,hb6⟩:∃x,x=f.block.length:=⟨_,rfl⟩
   obtain⟨b7,hb7⟩:∃x,x=f.index.at_:=⟨_,rfl⟩
   obtain⟨b8,hb8⟩:∃x,x=f.index.frames:=⟨_,rfl⟩
   obtain⟨b9,hb9⟩:∃x,x=f.index.rows:=⟨_,rfl⟩
   obtain⟨b10,hb10⟩:∃x,x=f.index.entries.length:=⟨_,rfl⟩
   rw[<-hb0,<-hb1,<-hbb2,<-hb3,<-hb4,<-hb5,<-hb6,<-hb7,<-hb8,<-hb9,<-hb10] at hfl ⊢
   obtain⟨w3,hw3⟩:∃w3,w3=w2.alloc (.cells #[.int .i64 b0,.int .i64 b1,.slice sp b2 sc,.int .i64 b3,.int .i64 b4,.int .i64 b5,.slice bp b6 bc,.int .i64 b7,.int .i64 b8,.int .i64 b9,.slice ep b10 ec] 61):=⟨_,rfl⟩
   have hb23:Below w2.1.size w2 w3:=by rw[hw3];exact xY
   have HW3:Hid (w2.alloc (.cells #[.int .i64 b0,.int .i64 b1,.slice sp b2 sc,.int .i64 b3,.int .i64 b4,.int .i64 b5,.slice bp b6 bc,.int .i64 b7,.int .i64 b8,.int .i64 b9,.slice ep b10 ec] 61)=w3):=hw3.symm
   have hk3:=hw2.on hb23
   have hv3:Hv w3:=HHv.out.on ((haw.below hBw (fun i hi hc=>by omega)).trans (hb23.mono (by have:=haw.size;omega))) hB
   have HNx:=xQ (ul hk3 f hwf _ (hfl.on hb23) (X.at_:Nat) hv3 (by omega) (by have:=haw.size;have:=hb23.size;omega))
   have HK3:=xQ hk3
   have HD3:=xQ (hdv.below hb23)
   have HA3:Hid (Aside (fun i=>i=g) w w3):=haw.trans (ag hb23 (fun i=>i=g)) (fun _ _ h=>h)
   obtain⟨mb,hmb⟩:∃mb,mb=Sc.may X.wk f (X.at_:Nat):=⟨_,rfl⟩
   rw[<-hmb] at HNx
   have HSt2:Hid (Sc.step s.b X=if mb=true then .ok ⟨m,Sc.take X.wk f (X.at_:Nat),X.read+Sc.reads s.b (X.at_:Nat)⟩ else .error 143):=by rw[hmb];exact HSt.out
   have HTk:Hid (Sc.next X.wk f (X.at_:Nat)=if mb=true then Sc.take X.wk f (X.at_:Nat) else X.wk):=by rw[hmb];exact rfl
   have hmI:(m:Int)<=2097152:=by omega
   clear hfo hfl hw2 hdv haw has hk3 hv3 hb23 hw3 hmb HSt HNe HOk HA HWk HI hb0 hb1 hbb2 hb3 hb4 hb5 hb6 hb7 hb8 hb9 hb10 hwf
   go_wp2_with fail
   rw[HW3.out]
   refine HNx.out.mono ?_
   rintro e w4 ⟨rfl,v4,g4,hk4,ha4,hv4⟩
   obtain⟨hd4,haw4⟩:=WhI.after HD3.out HK3.out HA3.out ha4 HG.out hgl
   have HK4:=xQ hk4
   have HD4:=xQ hd4
   have HA4:=xQ haw4
   clear hk4 ha4 hv4 hd4 haw4 HNx HK3 HD3 HA3 HW3
   cases mb with
   |false=>
    have HE:Hid (Sc.step s.b X=.error 143):=HSt2.out
    have HT2:Hid (Sc.next X.wk f (X.at_:Nat)=X.wk):=HTk.out
    rw[HT2.out] at HK4
    clear HSt2 HTk
    go_wp2
    go_ret3
    exact⟨j,X,143,v4,g4,HGo.out,HE.out,rfl,HK4.out,HD4.out,HA4.out⟩
   |true=>
    have HE:=xQ (Sc.goes_succ HGo.out HSt2.out)
    have HT2:Hid (Sc.next X.wk f (X.at_:Nat)=Sc.take X.wk f (X.at_:Nat)):=HTk.out
    rw[HT2.out] at HK4
    have HI2:Hid (WhI w w4 B g x k v s G (j+1) ⟨m,Sc.take X.wk f (X.at_:Nat),X.read+Sc.reads s.b (X.at_:Nat)⟩):=⟨by rw[<-Nat.add_assoc];exact HD4.out,⟨_,_,HK4.out⟩,HA4.out,HE.out⟩
    clear HSt2 HTk HK4 HD4 HA4 HE HT2
    go_wp2
    go_roundw
    case rel=>exact⟨j+1,_,rfl,HI2⟩
    case measure=>simp[intOf];omega
end
end
section
open Go.RowKit Go.Maps
def xm(o:Option Kn)(w:World)(e:Ending)(w':World):Prop:=match o with
 |none=>e=.returned (.tuple #[.agg #[.slice none 0 0],.bool false])
 |some k=>∃q cap,e=.returned (.tuple #[.agg #[.slice q k.cols.length cap],.bool true])∧dn w' w.1.size #[.slice q k.cols.length cap] k.cols
theorem fix_all{s:List Col}(h:∀c∈s,c.fix=c∧c.wf):s.map Col.fix=s:=by
 conv=>rhs;rw[<-List.map_id s]
 exact List.map_congr_left fun c hc=>(h c hc).1
theorem tu{w:World}{s:Wk}{g:Int->Option Value}{G:Nat->Prop}(h:ax w B a M n v g s G)(m:Int)(hm:Fr.i64 m):Calls Tryz.prog 51 #[.pointer (some ⟨a,0,none⟩),.int .i64 m] w fun e w'=>xm (s.sch m) w e w'∧Below w.1.size w w':=by
 obtain⟨W0,hW0⟩:∃W0,W0=w.alloc (.cells #[.slice none 0 0] 53):=⟨_,rfl⟩
 have hb0:Below w.1.size w W0:=by rw[hW0];exact xY
 have hbk:W0.1[w.1.size]?=some (.cells #[.slice none 0 0] 53):=by rw[hW0];exact ap w _
 have h0:=h.on hb0
 have c0:∀o,(w.alloc o).cell? ⟨a,0,none⟩=some (.map (some M)):=fun o=>ae (xZ.alloc xX o) (h.cell 0)
 have hz0:W0.1.size=w.1.size+1:=by rw[hW0];simp
 have hlk:=h0.map.look_ok hm
 cases hs:s.sch m with
 |none=>
  rw[h.unknown hs] at hlk
  simp only[Option.getD_none,Option.isSome_none,fg] at hlk
  rw[hW0] at hlk
  have HB:Hid (∀o,Below w.1.size w ((w.alloc (.cells #[.slice none 0 0] 53)).alloc o)):=fun o=>xY.alloc (by simp) _
  have HBk:Hid (∀o,((w.alloc (.cells #[.slice none 0 0] 53)).alloc o).1[w.1.size]?=some (.cells #[.slice none 0 0] 53)):=fun o=>by
   have hk:=(az W0 o (ao hbk)).trans hbk
   rw[hW0] at hk
   exact hk
  have y0:∀o,((w.alloc (.cells #[.slice none 0 0] 53)).alloc o).cell? ⟨w.1.size,0,none⟩=some (.slice none 0 0):=fun o=>by have:=aa ((az W0 o (ao hbk)).trans hbk) 0;rw[hW0] at this;exact this
  have y1:∀o,((w.alloc (.cells #[.slice none 0 0] 53)).alloc o).frozen? ⟨w.1.size,0,none⟩=false:=fun o=>by have:=ac ((az W0 o (ao hbk)).trans hbk) 0;rw[hW0] at this;exact this
  clear h h0 hs hW0 hb0 hbk hz0
  go_enter Tryz.func51,Tryz.ntmps51
  go_wp2
  refine bodyPost_ret (aB rfl _ _ w.1.size _ _ _ _ rfl (HBk.out _) Tryz.underlying53 rfl (by kernel_rfl)) rfl ?_
  exact⟨rfl,HB.out _⟩
 |some k=>
  obtain⟨p,c,e1,e2,e3,e4⟩:=h0.known hs
  obtain⟨-,k2,k3,-⟩:=h.good.known m k hs
  rw[e1] at hlk
  simp only[Option.getD_some,Option.isSome_some] at hlk
  rw[hW0] at hlk
  obtain⟨W1,hW1⟩:∃W1,W1=W0.alloc (.cells #[.slice p k.cols.length c,.int .i64 k.place] 143):=⟨_,rfl⟩
  have hb1:Below W0.1.size W0 W1:=by rw[hW1];exact xY
  have HC:=xQ (oJ k.cols p c W1 e2 (e4.on hb1) k2 (fun x hx=>(k3 x hx).2))
  rw[fix_all k3] at HC
  have HW1:Hid ((w.alloc (.cells #[.slice none 0 0] 53)).alloc (.cells #[.slice p k.cols.length c,.int .i64 k.place] 143)=W1):=by rw[hW1,hW0];exact rfl
  have HB1:=xQ (hb0.trans (hb1.mono hb0.size))
  have HBk:=xQ ((hb1.block _ (ao hbk)).trans hbk)
  have hz1:W1.1.size=w.1.size+2:=by rw[hW1];simp[hz0]
  obtain⟨nn,hnn⟩:∃nn,nn=k.cols.length:=⟨_,rfl⟩
  rw[<-hnn] at HC HW1 hlk
  have HNn:=xQ hnn
  clear h h0 hs hW0 hb0 hbk hW1 hb1 e1 e2 e3 e4 k2 k3 hz0 hnn
  go_enter Tryz.func51,Tryz.ntmps51
  go_wp2_with fail
  rw[HW1.out]
  refine HC.out.mono ?_
  rintro e w2 ⟨q,cap,rfl,ho,hb2⟩
  have hbk2:=(hb2.block _ (by omega)).trans HBk.out
  have x0:w2.cell? ⟨w.1.size,0,none⟩=some (.slice none 0 0):=aa hbk2 0
  have x1:=ac hbk2 0
  have ha:Aside (fun i=>i=w.1.size) w2 (w2.setCell ⟨w.1.size,0,none⟩ (.slice q nn cap)):=(Aside.refl (fun i=>i=w.1.size) w2).setCell (p:=⟨w.1.size,0,none⟩) (.inl rfl) _
  have HO:Hid (dn (w2.setCell ⟨w.1.size,0,none⟩ (.slice q nn cap)) w.1.size #[.slice q nn cap] k.cols):=eX (ho.beside ha (fun i hi=>by omega)) (by omega)
  have HB2:Hid (Below w.1.size w (w2.setCell ⟨w.1.size,0,none⟩ (.slice q nn cap))):=(HB1.out.trans (hb2.mono HB1.out.size)).trans (ha.below (by have:=hb2.size;omega) (fun i hi hc=>by omega))
  have HBf:Hid ((w2.setCell ⟨w.1.size,0,none⟩ (.slice q nn cap)).1[w.1.size]?=some (.cells #[.slice q nn cap] 53)):=by
   show _=_
   simp only[World.setCell,Array.getElem?_modify,hbk2,if_true,Option.map_some]
   rfl
  clear ho hb2 hbk2 ha HC
  go_wp2
  refine bodyPost_ret (aB rfl _ _ w.1.size _ _ _ _ rfl HBf.out Tryz.underlying53 rfl (by kernel_rfl)) rfl ?_
  have e0:=HNn.out
  subst e0
  exact⟨⟨q,cap,rfl,HO.out⟩,HB2.out⟩
end
end Go.Proofs.YtceomhodhmcknaaGreatDoor
