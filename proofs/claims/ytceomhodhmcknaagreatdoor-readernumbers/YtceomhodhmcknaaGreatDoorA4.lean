import Derived.Test.YtceomhodhmcknaaGreatDoorA10
import Derived.Test.YtceomhodhmcknaaGreatDoorA11
import Derived.Test.YtceomhodhmcknaaGreatDoorB38
set_option maxRecDepth 100000
set_option maxHeartbeats 4000000
namespace Go.Proofs.YtceomhodhmcknaaGreatDoor
variable{B x:Nat}{w w':World}{q:OA}
section
open Go.RowKit
structure cL(w:World)(B g:Nat)(v:Value)(b:L8)(n:Nat):Prop where
 out:∃s x k,aS w B g v s x k∧s.b=b∧s.down=false∧s.told<=n
section
variable {w w':World} {B g n:Nat} {v:Value} {b:L8}
theorem cL.aside{F:Nat->Prop}(h:cL w B g v b n)(ha:Aside F w w')(hg:¬F g)(hv:∀k,v.ownBlock=some k->¬F k):cL w' B g v b n:=by
 obtain⟨s,x,k,h1,h2⟩:=h.out
 exact⟨s,x,k,h1.aside ha hg hv,h2⟩
theorem cL.on(h:cL w B g v b n)(hb:Below w.1.size w w'):cL w' B g v b n:=h.aside (ag hb (fun _=>False)) id (fun _ _=>id)
theorem cL.lt(h:cL w B g v b n):B<=g∧g<w.1.size:=by
 obtain⟨s,x,k,h1,h2⟩:=h.out
 exact⟨h1.base,h1.lt⟩
theorem cL.own(h:cL w B g v b n){i:Nat}(hi:v.ownBlock=some i):B<=i∧i<w.1.size:=by
 obtain⟨s,x,k,h1,h2⟩:=h.out
 exact h1.has.lt i hi
theorem cL.at(h:cL w B g v b n)(hn:n<=90000000000)(hl:b.length<=2097152)(hv:Hv w)(hB:1<B)(p:Int):
  Calls Tryz.prog 24 #[.pointer (some ⟨g,0,none⟩),.int .i64 p] w fun e w'=>AtA (Sc.at_ b p) w e w'∧cL w' B g v b (n+2202)∧Aside (fun i=>i=g) w w':=by
 obtain⟨s,x,k,h1,rfl,h3,h7⟩:=h.out
 have hrl:=Sc.reads_le s.b p
 refine(kAt h1 h3 hl (by omega) hv hB p).mono ?_
 rintro e w' ⟨q1,q2,q3⟩
 exact⟨q1,⟨_,x,k,q2,rfl,h3,by show s.told+Sc.reads s.b p<=_;omega⟩,q3⟩
end
def cQ(g p a:Nat)(un lv:Value)(er:Nat):AV:=#[.pointer (some ⟨g,0,none⟩),.int .i64 (p:Nat),.pointer (some ⟨a,0,none⟩),un,.int .i64 0,lv,.int .i64 (er:Nat)]
def gS(g r a M:Nat)(i:Nat):Prop:=i=g∨i=r∨i=a∨i=M
structure RdC(w0:World)(B g r a M:Nat)(v:Value)(b:L8):Prop where
 hv:Hv w0
 base:1<B
 len:b.length<=2097152
 far:∀i,gS g r a M i->B<=i∧i<w0.1.size
 vr:∀i,v.ownBlock=some i->i≠g∧i≠r∧i<w0.1.size
 gr:g≠r
structure RdE(w0 w:World)(B g r a M:Nat)(v un lv:Value)(b:L8)(n er:Nat):Prop where
 file:cL w B g v b n
 blk:∃p,w.1[r]?=some (.cells (cQ g p a un lv er) 73 (0,0))
 asd:Aside (gS g r a M) w0 w
structure Rdg(w0 w:World)(B Bw g r a M:Nat)(v un lv:Value)(b:L8)(n:Nat)(G:Nat->Prop)(j:Nat)(X:Sc.Pos):Prop where
 file:cL w B g v b n
 blk:w.1[r]?=some (.cells (cQ g X.at_ a un lv 0) 73 (0,0))
 walk:∃v' g',ax w Bw a M j v' g' X.wk G∧∀i,v'.ownBlock=some i->w0.1.size<=i
 inG:∀i,i=g∨v.ownBlock=some i∨i=r->G i
 asd:Aside (gS g r a M) w0 w
def rF(g r:Nat)(G:Nat->Prop)(i:Nat):Prop:=i=g∨i=r∨¬G i
section
variable {w0 w w':World} {B Bw g r a M n j er:Nat} {v un lv:Value} {b:L8} {G:Nat->Prop} {X:Sc.Pos}
theorem RdC.hvOn(h:RdC w0 B g r a M v b)(ha:Aside (gS g r a M) w0 w):Hv w:=fun i hi=>by
 have h0:=h.hv.lt
 have hb:=h.base
 rw[ha.cell (p:=⟨1,i,none⟩) h0 (fun hc=>by have:=(h.far _ hc).1;simp only at this;omega)]
 exact h.hv i hi
theorem Rdg.toE(h:Rdg w0 w B Bw g r a M v un lv b n G j X):RdE w0 w B g r a M v un lv b n 0:=⟨h.file,⟨_,h.blk⟩,h.asd⟩
theorem RdE.on(h:RdE w0 w B g r a M v un lv b n er)(hb:Below w.1.size w w'):RdE w0 w' B g r a M v un lv b n er:=by
 obtain⟨p,h1⟩:=h.blk
 exact⟨h.file.on hb,⟨p,(hb.block r (ao h1)).trans h1⟩,h.asd.trans (ag hb (fun _=>False)) (fun _ _ hc=>hc.elim)⟩
theorem Rdg.on(h:Rdg w0 w B Bw g r a M v un lv b n G j X)(hb:Below w.1.size w w'):Rdg w0 w' B Bw g r a M v un lv b n G j X:=by
 obtain⟨v',g',h1,h2⟩:=h.walk
 exact⟨h.file.on hb,(hb.block r (ao h.blk)).trans h.blk,⟨v',g',h1.on hb,h2⟩,h.inG,h.asd.trans (ag hb (fun _=>False)) (fun _ _ hc=>hc.elim)⟩
theorem Rdg.setE(h:Rdg w0 w B Bw g r a M v un lv b n G j X)(hc:RdC w0 B g r a M v b)(i:Nat)(u:Value):cL (w.setCell ⟨r,i,none⟩ u) B g v b n∧(w.setCell ⟨r,i,none⟩ u).1[r]?=some (.cells ((cQ g X.at_ a un lv 0).setIfInBounds i u) 73 (0,0))∧(∃v' g',ax (w.setCell ⟨r,i,none⟩ u) Bw a M j v' g' X.wk G∧∀i,v'.ownBlock=some i->w0.1.size<=i)∧Aside (gS g r a M) w0 (w.setCell ⟨r,i,none⟩ u):=by
 have ha:Aside (fun k=>k=r) w (w.setCell ⟨r,i,none⟩ u):=ai w r i u
 obtain⟨v',g',h1,h2⟩:=h.walk
 refine⟨h.file.aside ha hc.gr (fun k hk he=>(hc.vr k hk).2.1 he),al h.blk i u,⟨v',g',?_,h2⟩,h.asd.trans ha (fun k _ hk=>.inr (.inl hk))⟩
 exact h1.aside (ha.mono fun k _ hk=>h.inG k (.inr (.inr hk))) (fun k hk=>.inl hk) (fun k hk=>Nat.lt_of_lt_of_le (h1.low k hk) ha.size)
theorem RdE.setE(h:RdE w0 w B g r a M v un lv b n er)(hc:RdC w0 B g r a M v b)(i:Nat)(u:Value):cL (w.setCell ⟨r,i,none⟩ u) B g v b n∧(∃p,(w.setCell ⟨r,i,none⟩ u).1[r]?=some (.cells ((cQ g p a un lv er).setIfInBounds i u) 73 (0,0)))∧Aside (gS g r a M) w0 (w.setCell ⟨r,i,none⟩ u):=by
 have ha:Aside (fun k=>k=r) w (w.setCell ⟨r,i,none⟩ u):=ai w r i u
 obtain⟨p,h1⟩:=h.blk
 exact⟨h.file.aside ha hc.gr (fun k hk he=>(hc.vr k hk).2.1 he),⟨p,al h1 i u⟩,h.asd.trans ha (fun k _ hk=>.inr (.inl hk))⟩
end
def AtS(r:Except Nat (Fr×Nat))(H:Nat)(w:World)(c:AV)(m er:Nat):Prop:=match r with
 |.error k=>er=k∧c=cm
 |.ok (f,m')=>er=0∧m=m'∧dD w H c f
theorem RdE.beside{w0:World}{g r a M n er:Nat}{v un lv:Value}{b:L8}(h:RdE w0 w B g r a M v un lv b n er)(hc:RdC w0 B g r a M v b)(ha:Aside (fun i=>i=x) w w')(hx:w0.1.size<=x):RdE w0 w' B g r a M v un lv b n er:=by
 obtain⟨p,h1⟩:=h.blk
 have hg:=(hc.far g (.inl rfl)).2
 have hr:=(hc.far r (.inr (.inl rfl))).2
 exact⟨h.file.aside ha (by omega) (fun k hk=>by have:=(hc.vr k hk).2.2;omega),⟨p,(ha.block r (ao h1) (by omega)).trans h1⟩,h.asd.trans ha (fun i hi he=>by omega)⟩
structure Got(r:Except Nat (Fr×Nat))(W wx:World)(F:Nat->Prop)(gb:Nat)(c:AV)(m er:Nat):Prop where
 blk:wx.1[gb]?=some (.cells c 61 (0,0))
 new:W.1.size<=gb
 asd:Aside F W wx
 says:AtS r W.1.size wx c m er
theorem AtA.any{r:Except Nat (Fr×Nat)}{w:World}{e:Ending}{w':World}(h:AtA r w e w'):∃(k0 k1 k3 k4 k5 k7 k8 k9:Int) (sp bp ep:OA) (sn sc bn bc en ec m er:Nat),e=.returned (.tuple #[.agg (av k0 k1 sp sn sc k3 k4 k5 bp bn bc k7 k8 k9 ep en ec),.int .i64 (m:Nat),.int .i64 (er:Nat)])∧AtS r w.1.size w' (av k0 k1 sp sn sc k3 k4 k5 bp bn bc k7 k8 k9 ep en ec) m er:=by
 cases r with
 |error k=>exact⟨0,0,0,0,0,0,0,0,none,none,none,0,0,0,0,0,0,0,k,h,rfl,rfl⟩
 |ok y=>
  obtain⟨f,m⟩:=y
  obtain⟨u,h1,h2⟩:=h
  obtain⟨sp,sc,bp,bc,ep,ec,hu,-⟩:=h2.out
  subst hu
  exact⟨_,_,_,_,_,_,_,_,_,_,_,_,_,_,_,_,_,m,0,h1,rfl,rfl,h2⟩
section
variable {r:Except Nat (Fr×Nat)} {W w2:World} {F:Nat->Prop} {m er H:Nat} {k0 k1 k3 k4 k5 k7 k8 k9:Int} {sp bp ep:OA} {sn sc bn bc en ec:Nat}
theorem oG(h:AtS r H w2 (av k0 k1 sp sn sc k3 k4 k5 bp bn bc k7 k8 k9 ep en ec) m er)(hW:H=W.1.size)(ha:Aside F W w2):Got r W (w2.alloc (.cells #[.int .i64 k0,.int .i64 k1,.slice sp sn sc,.int .i64 k3,.int .i64 k4,.int .i64 k5,.slice bp bn bc,.int .i64 k7,.int .i64 k8,.int .i64 k9,.slice ep en ec] 61)) F w2.1.size (av k0 k1 sp sn sc k3 k4 k5 bp bn bc k7 k8 k9 ep en ec) m er:=by
 refine⟨ap w2 _,ha.size,ha.alloc _,?_⟩
 cases r with
 |error k=>exact h
 |ok y=>
  obtain⟨h1,h2,h3⟩:=h
  rw[hW] at h3
  exact⟨h1,h2,h3.beside14 (ag xY (fun _=>False)) (fun _ hc=>hc.elim)⟩
theorem tD(h:AtS r H w2 (av k0 k1 sp sn sc k3 k4 k5 bp bn bc k7 k8 k9 ep en ec) m er)(hW:H=W.1.size+1)(hz:w2.1[W.1.size]?=some (.cells cm 61 (0,0)))(ha:Aside F W w2):Got r W (de w2 W.1.size (.int .i64 k0) (.int .i64 k1) (.slice sp sn sc) (.int .i64 k3) (.int .i64 k4) (.int .i64 k5) (.slice bp bn bc) (.int .i64 k7) (.int .i64 k8) (.int .i64 k9) (.slice ep en ec)) F W.1.size (av k0 k1 sp sn sc k3 k4 k5 bp bn bc k7 k8 k9 ep en ec) m er:=by
 have hs:=aO w2 W.1.size (.int .i64 k0) (.int .i64 k1) (.slice sp sn sc) (.int .i64 k3) (.int .i64 k4) (.int .i64 k5) (.slice bp bn bc) (.int .i64 k7) (.int .i64 k8) (.int .i64 k9) (.slice ep en ec)
 refine⟨bm hz _ _ _ _ _ _ _ _ _ _ _,xX,ha.trans hs (fun i hi hc=>by omega),?_⟩
 cases r with
 |error k=>exact h
 |ok y=>
  obtain⟨h1,h2,h3⟩:=h
  exact⟨h1,h2,(h3.beside14 hs (fun k hk=>by omega)).low14 (by omega)⟩
end
section
variable {w0 w w':World} {B Bw g r a M n j er:Nat} {v un lv:Value} {b:L8} {G:Nat->Prop} {X:Sc.Pos}
theorem Rdg.grow{G':Nat->Prop}(h:Rdg w0 w B Bw g r a M v un lv b n G j X)(hb:Below w.1.size w w')(hG:∀k,G' k->G k∨(w.1.size<=k∧k<w'.1.size))(hi:∀k,G k->G' k):Rdg w0 w' B Bw g r a M v un lv b n G' j X:=by
 obtain⟨v',g',h1,h2⟩:=h.walk
 exact⟨h.file.on hb,(hb.block r (ao h.blk)).trans h.blk,⟨v',g',h1.aside (ag hb G) (fun k hk=>(hG k hk).imp id And.left) (fun k hk=>(hG k hk).elim (fun hh=>Nat.lt_of_lt_of_le (h1.low k hh) hb.size) And.right),h2⟩,fun i hi'=>hi i (h.inG i hi'),h.asd.trans (ag hb (fun _=>False)) (fun _ _ hc=>hc.elim)⟩
theorem Rdg.beside(h:Rdg w0 w B Bw g r a M v un lv b n G j X)(hc:RdC w0 B g r a M v b)(ha:Aside (fun i=>i=x) w w')(hx:w0.1.size<=x)(hG:G x):Rdg w0 w' B Bw g r a M v un lv b n G j X:=by
 obtain⟨v',g',h1,h2⟩:=h.walk
 have hr:=(hc.far r (.inr (.inl rfl))).2
 have hg:=(hc.far g (.inl rfl)).2
 exact⟨h.file.aside ha (by omega) (fun k hk=>by have:=(hc.vr k hk).2.2;omega),(ha.block r (ao h.blk) (by omega)).trans h.blk,⟨v',g',h1.aside (ha.mono fun i _ hi=>by rw[hi];exact hG) (fun k hk=>.inl hk) (fun k hk=>Nat.lt_of_lt_of_le (h1.low k hk) ha.size),h2⟩,h.inG,h.asd.trans ha (fun i hi he=>by omega)⟩
theorem Rdg.less{G':Nat->Prop}(h:Rdg w0 w B Bw g r a M v un lv b n G j X)(hi:∀k,G' k->G k)(hin:∀i,i=g∨v.ownBlock=some i∨i=r->G' i):Rdg w0 w B Bw g r a M v un lv b n G' j X:=by
 obtain⟨v',g',h1,h2⟩:=h.walk
 exact⟨h.file,h.blk,⟨v',g',h1.less hi,h2⟩,hin,h.asd⟩
theorem gW{G':Nat->Prop}(ha:Aside (rF g r G') w w')(hi:∀k,k<w.1.size->G k->G' k):Aside (rF g r G) w w':=ha.mono fun i hi' hf=>hf.imp id (fun h=>h.imp id (fun h hg=>h (hi i hi' hg)))
def NfA(w0 w:World)(B Bw g r a M:Nat)(v un lv:Value)(b:L8)(n:Nat)(G:Nat->Prop)(j:Nat)(X:Sc.Pos)(e:Ending)(w':World):Prop :=
  Aside (rF g r G) w w'∧((∃er:Nat,Sc.step b X=.error er∧er≠0∧e=.returned (.tuple #[.agg cm,.int .i64 (er:Nat)])∧RdE w0 w' B g r a M v un lv b (n+2202) 0) ∨
   (∃f m u,Sc.at_ b X.at_=.ok (f,m)∧Sc.may X.wk f X.at_=true∧e=.returned (.tuple #[.agg u,.int .i64 0])∧dD w' w.1.size u f∧f.wf∧X.at_<m∧m<=b.length∧Rdg w0 w' B Bw g r a M v un lv b (n+2202) G (j+1) (Rd.stepped b X f m)))
theorem mY(hc:RdC w0 B g r a M v b)(h:Rdg w0 w B Bw g r a M v un lv b n G j X)(hn:n<=90000000000)(hj:j<1000000000)(hBw:Bw<=w0.1.size):
  Calls Tryz.prog 80 #[.pointer (some ⟨r,0,none⟩)] w (NfA w0 w B Bw g r a M v un lv b n G j X):=by
 have HC:=xQ hc
 have HH:=xQ h
 have HK:Hid (∀W,Below w.1.size w W->W.cell? ⟨r,0,none⟩=some (.pointer (some ⟨g,0,none⟩))∧W.cell? ⟨r,1,none⟩=some (.int .i64 (X.at_:Nat))∧W.cell? ⟨r,2,none⟩=some (.pointer (some ⟨a,0,none⟩))):=fun W hb=>by
  have hk:=aa (h.on hb).blk
  exact⟨hk 0,hk 1,hk 2⟩
 obtain⟨W1,hW1⟩:∃W1,W1=w.alloc (.cells #[.int .i64 0,.int .i64 0,.slice none 0 0,.int .i64 0,.int .i64 0,.int .i64 0,.slice none 0 0,.int .i64 0,.int .i64 0,.int .i64 0,.slice none 0 0] 61):=⟨_,rfl⟩
 have hb1:Below w.1.size w W1:=by rw[hW1];exact xY
 have HP:Hid (W1.1[w.1.size]?=some (.cells cm 61 (0,0))):=by rw[hW1];exact ap w _
 have HW1:=xQ hW1
 have HB1:=xQ hb1
 obtain⟨c0,c1,c2⟩:=HK.out W1 hb1
 obtain⟨rr,hrr⟩:∃rr,rr=Sc.at_ b (X.at_:Nat):=⟨_,rfl⟩
 have HA:Hid (∀W,Below W1.1.size W1 W->Calls Tryz.prog 24 #[.pointer (some ⟨g,0,none⟩),.int .i64 (X.at_:Nat)] W fun e w'=>AtA rr W e w'∧cL w' B g v b (n+2202)∧Aside (fun i=>i=g) W w'):=fun W hb=>by
  rw[hrr]
  have h2:=h.on (hb1.trans (hb.mono hb1.size))
  exact h2.file.at hn hc.len (hc.hvOn h2.asd) hc.base (X.at_:Nat)
 have HSt:Hid (∀f m,rr=.ok (f,m)->Sc.step b X=if Sc.may X.wk f (X.at_:Nat)=true then .ok ⟨m,Sc.take X.wk f (X.at_:Nat),X.read+Sc.reads b (X.at_:Nat)⟩ else .error 143):=fun f m h=>by
  unfold Sc.step
  rw[<-hrr,h]
 have HRr:=xQ hrr
 have hlen:=hc.len
 have HZ0:Hid (w0.1.size<=W1.1.size):=Nat.le_trans h.asd.size hb1.size
 have hgW:g<W1.1.size:=Nat.lt_of_lt_of_le h.file.lt.2 hb1.size
 clear h hc hrr hW1 hb1
 go_enter Tryz.func80,Tryz.ntmps80
 go_wp2_with fail
 rw[<-HW1.out]
 clear HW1
 go_cut [4,5,6] from 8 (fun v4 v5 v6 wx=>∃(gb m er:Nat) (k0 k1 k3 k4 k5 k7 k8 k9:Int) (sp bp ep:OA) (sn sc bn bc en ec:Nat),v4=.pointer (some ⟨gb,0,none⟩)∧v5=.int .i64 (m:Nat)∧v6=.int .i64 (er:Nat)∧Hid (cL wx B g v b (n+2202)∧Got rr W1 wx (fun i=>i=g) gb (av k0 k1 sp sn sc k3 k4 k5 bp bn bc k7 k8 k9 ep en ec) m er))
 case first=>
  go_region_held3 (fun w'=>w'.cell? ⟨r,0,none⟩=some (.pointer (some ⟨g,0,none⟩))∧w'.cell? ⟨r,1,none⟩=some (.int .i64 (X.at_:Nat))) (first | go_keep | exact⟨y0,y1⟩) (first
   | (go_at_call 24;refine(HA.out _ (by first | exact xZ.drew | exact xZ)).mono ?_;rintro e w2 ⟨hans,hup,has⟩;obtain⟨k0,k1,k3,k4,k5,k7,k8,k9,sp,bp,ep,sn,sc,bn,bc,en,ec,m,er,rfl,hr⟩:=hans.any;have hsv:Aside (fun i=>i=g) W1 w2:=⟨has.os,has.tape,has.output,has.size,has.block⟩;have HU:Hid (∀o,cL (w2.alloc o) B g v b (n+2202)):=fun o=>hup.on (xZ.alloc xX o);have HG:=xQ (oG (W:=W1) hr (by rfl) hsv); have z0:=(hsv.cell (p:=⟨r,0,none⟩) (World.block_lt_of_cell? _ _ c0) (fun hc=>HC.out.gr hc.symm)).trans c0;have z1:=(hsv.cell (p:=⟨r,1,none⟩) (World.block_lt_of_cell? _ _ c1) (fun hc=>HC.out.gr hc.symm)).trans c1;unfold av;clear hans hr hup has hsv)
   | (go_at_call 24;refine(HA.out _ (by first | exact xY.drew | exact xZ.drew.alloc xX _ | exact xY)).mono ?_;rintro e w2 ⟨hans,hup,has⟩;obtain⟨k0,k1,k3,k4,k5,k7,k8,k9,sp,bp,ep,sn,sc,bn,bc,en,ec,m,er,rfl,hr⟩:=hans.any;have hsv:Aside (fun i=>i=g) W1 w2:=(((Aside.refl _ _).alloc _).drew).trans ⟨has.os,has.tape,has.output,has.size,has.block⟩ (fun _ _ h=>h);have hz:w2.1[W1.1.size]?=some (.cells cm 61 (0,0)):=(has.block _ (by simp) (by omega)).trans (ap W1 _);have HG:=xQ (tD (W:=W1) hr (by simp) hz hsv);have HU:Hid (cL (de w2 W1.1.size (.int .i64 k0) (.int .i64 k1) (.slice sp sn sc) (.int .i64 k3) (.int .i64 k4) (.int .i64 k5) (.slice bp bn bc) (.int .i64 k7) (.int .i64 k8) (.int .i64 k9) (.slice ep en ec)) B g v b (n+2202)):=hup.aside (aO _ _ _ _ _ _ _ _ _ _ _ _ _) (by omega) (fun k hk hc=>by have:=(HC.out.vr k hk).2.2;have:=HZ0.out;omega);have z0:=(hsv.cell (p:=⟨r,0,none⟩) (World.block_lt_of_cell? _ _ c0) (fun hc=>HC.out.gr hc.symm)).trans c0;have z1:=(hsv.cell (p:=⟨r,1,none⟩) (World.block_lt_of_cell? _ _ c1) (fun hc=>HC.out.gr hc.symm)).trans c1;have y0:(de w2 W1.1.size (.int .i64 k0) (.int .i64 k1) (.slice sp sn sc) (.int .i64 k3) (.int .i64 k4) (.int .i64 k5) (.slice bp bn bc) (.int .i64 k7) (.int .i64 k8) (.int .i64 k9) (.slice ep en ec)).cell? ⟨r,0,none⟩=some (.pointer (some ⟨g,0,none⟩)):=((aO _ _ _ _ _ _ _ _ _ _ _ _ _).cell (p:=⟨r,0,none⟩) (World.block_lt_of_cell? _ _ z0) (by show ¬r=_;have:=World.block_lt_of_cell? _ _ c0;simp only at this;omega)).trans z0;have y1:(de w2 W1.1.size (.int .i64 k0) (.int .i64 k1) (.slice sp sn sc) (.int .i64 k3) (.int .i64 k4) (.int .i64 k5) (.slice bp bn bc) (.int .i64 k7) (.int .i64 k8) (.int .i64 k9) (.slice ep en ec)).cell? ⟨r,1,none⟩=some (.int .i64 (X.at_:Nat)):=((aO _ _ _ _ _ _ _ _ _ _ _ _ _).cell (p:=⟨r,1,none⟩) (World.block_lt_of_cell? _ _ z1) (by show ¬r=_;have:=World.block_lt_of_cell? _ _ c0;simp only at this;omega)).trans z1;unfold de at HG HU y0 y1;obtain⟨f0,f1,f2,f3,f4,f5,f6,f7,f8,f9,f10⟩:=cQ11 hz;have ff:=ac hz;unfold av;clear hans hr hup has hsv hz))
  all_goals (try go_wp2_with fail)
  all_goals go_meet
  ·exact⟨_,m,er,k0,k1,k3,k4,k5,k7,k8,k9,sp,bp,ep,sn,sc,bn,bc,en,ec,rfl,rfl,rfl,HU.out _,HG.out⟩
  all_goals exact⟨_,m,er,k0,k1,k3,k4,k5,k7,k8,k9,sp,bp,ep,sn,sc,bn,bc,en,ec,rfl,rfl,rfl,HU.out,HG.out⟩
 case rest=>
  obtain⟨gb,m,er,k0,k1,k3,k4,k5,k7,k8,k9,sp,bp,ep,sn,sc,bn,bc,en,ec,rfl,rfl,rfl,HX⟩:=hcut
  have hasd:=HX.out.2.asd
  have hrp:wc.1[w.1.size]?=some (.cells cm 61 (0,0)):=(hasd.block _ (ao HP.out) (by have:=HH.out.file.lt;omega)).trans HP.out
  have hwc:Aside (fun i=>i=g) w wc:=(ag HB1.out _).trans hasd (fun _ _ h=>h)
  have hE:RdE w0 wc B g r a M v un lv b (n+2202) 0:=⟨HX.out.1,⟨X.at_,(hwc.block _ (ao HH.out.blk) (fun hc=>HC.out.gr hc.symm)).trans HH.out.blk⟩,HH.out.asd.trans hwc (fun _ _ h=>.inl h)⟩
  have hrp2:=hrp
  unfold cm at hrp2
  have d:=aa hrp2
  have d0:wc.cell? ⟨w.1.size,0,none⟩=some (.int .i64 0):=d 0
  have d1:wc.cell? ⟨w.1.size,1,none⟩=some (.int .i64 0):=d 1
  have d2:wc.cell? ⟨w.1.size,2,none⟩=some (.slice none 0 0):=d 2
  have d3:wc.cell? ⟨w.1.size,3,none⟩=some (.int .i64 0):=d 3
  have d4:wc.cell? ⟨w.1.size,4,none⟩=some (.int .i64 0):=d 4
  have d5:wc.cell? ⟨w.1.size,5,none⟩=some (.int .i64 0):=d 5
  have d6:wc.cell? ⟨w.1.size,6,none⟩=some (.slice none 0 0):=d 6
  have d7:wc.cell? ⟨w.1.size,7,none⟩=some (.int .i64 0):=d 7
  have d8:wc.cell? ⟨w.1.size,8,none⟩=some (.int .i64 0):=d 8
  have d9:wc.cell? ⟨w.1.size,9,none⟩=some (.int .i64 0):=d 9
  have d10:wc.cell? ⟨w.1.size,10,none⟩=some (.slice none 0 0):=d 10
  have df:=ac hrp2
  have HE:=xQ hE
  have HRp:=xQ hrp2
  have HWc:=xQ hwc
  clear c0 c1 c2 HA hasd hrp hrp2 d hE hwc
  cases rr with
  |error k=>
   obtain⟨rfl,-⟩:er=k∧_:=HX.out.2.says
   have hne:=oM HRr.out.symm
   have g1:((er:Int) != 0)=true:=bC (by omega)
   have HS:Hid (Sc.step b X=.error er):=by
    show _=_
    unfold Sc.step
    rw[<-HRr.out]
   clear HX HRr
   go_wp2
   refine bodyPost_ret (aB rfl _ _ w.1.size _ _ _ _ rfl (bm HRp.out _ _ _ _ _ _ _ _ _ _ _) Tryz.underlying61 rfl (by kernel_rfl)) rfl ?_
   have hs:=aO wc w.1.size (.int .i64 0) (.int .i64 0) (.slice none 0 0) (.int .i64 0) (.int .i64 0) (.int .i64 0) (.slice none 0 0) (.int .i64 0) (.int .i64 0) (.int .i64 0) (.slice none 0 0)
   exact⟨(HWc.out.mono (fun _ _ h=>.inl h)).trans hs (fun i hi he=>by omega),.inl ⟨er,HS.out,by omega,rfl,HE.out.beside HC.out hs HH.out.asd.size⟩⟩
  |ok y=>
   obtain⟨f,m'⟩:=y
   obtain⟨rfl,rfl,hfo⟩:er=0∧m=m'∧dD wc W1.1.size (av k0 k1 sp sn sc k3 k4 k5 bp bn bc k7 k8 k9 ep en ec) f:=HX.out.2.says
   obtain⟨a1,a2,a3,hwf,a5,hml,a7⟩:=Sc.at_ok HRr.out.symm
   have hmx:X.at_<m:=by rw[a5];simp;omega
   obtain⟨v',g',hk,hvo⟩:=HH.out.walk
   have hkc:ax wc Bw a M j v' g' X.wk (fun k=>G k∨k=w.1.size):=hk.aside (HWc.out.mono fun i _ hi=>HH.out.inG i (.inl hi)) (fun k hk=>hk.imp id (fun h=>by omega)) (fun k hkk=>hkk.elim (fun h=>Nat.lt_of_lt_of_le (hk.low k h) HWc.out.size) (fun h=>by have:=ao HRp.out;omega))
   have hvc:Hv wc:=HC.out.hvOn HE.out.asd
   obtain⟨mb,hmb⟩:∃mb,mb=Sc.may X.wk f (X.at_:Nat):=⟨_,rfl⟩
   have hNx:=fun W (hb:Below wc.1.size wc W)=>ul (hkc.on hb) f hwf _ (hfo.lies.on hb) (X.at_:Nat) (hvc.next hb) hj (Nat.le_trans hBw (Nat.le_trans HE.out.asd.size hb.size))
   rw[<-hmb] at hNx
   obtain⟨q,hq⟩:∃q:Int,(if mb=true then 0 else 143)=q:=⟨_,rfl⟩
   simp only[hq] at hNx
   have HQ:=xQ hq
   clear hq
   have HNx:=xQ hNx
   unfold av at HNx
   have HMb:=xQ hmb
   have HKc:=xQ hkc
   have HFo:=xQ hfo
   have HVo:=xQ hvo
   have HVl:Hid (∀i,v'.ownBlock=some i->i<w.1.size):=fun i hi=>(hk.ents.lt i hi).2
   have hgl:wc.1[gb]?=some (.cells (av k0 k1 sp sn sc k3 k4 k5 bp bn bc k7 k8 k9 ep en ec) 61 (0,0)):=HX.out.2.blk
   unfold av at hgl
   have x:=aa hgl
   have x0:wc.cell? ⟨gb,0,none⟩=some (.int .i64 k0):=x 0
   have x1:wc.cell? ⟨gb,1,none⟩=some (.int .i64 k1):=x 1
   have x2:wc.cell? ⟨gb,2,none⟩=some (.slice sp sn sc):=x 2
   have x3:wc.cell? ⟨gb,3,none⟩=some (.int .i64 k3):=x 3
   have x4:wc.cell? ⟨gb,4,none⟩=some (.int .i64 k4):=x 4
   have x5:wc.cell? ⟨gb,5,none⟩=some (.int .i64 k5):=x 5
   have x6:wc.cell? ⟨gb,6,none⟩=some (.slice bp bn bc):=x 6
   have x7:wc.cell? ⟨gb,7,none⟩=some (.int .i64 k7):=x 7
   have x8:wc.cell? ⟨gb,8,none⟩=some (.int .i64 k8):=x 8
   have x9:wc.cell? ⟨gb,9,none⟩=some (.int .i64 k9):=x 9
   have x10:wc.cell? ⟨gb,10,none⟩=some (.slice ep en ec):=x 10
   obtain⟨p,hrb⟩:=HE.out.blk
   have hrb':wc.1[r]?=some (.cells (cQ g X.at_ a un lv 0) 73 (0,0)):=(HWc.out.block _ (ao HH.out.blk) (fun hc=>HC.out.gr hc.symm)).trans HH.out.blk
   have e1:wc.cell? ⟨r,1,none⟩=some (.int .i64 (X.at_:Nat)):=aa hrb' 1
   have e2:wc.cell? ⟨r,2,none⟩=some (.pointer (some ⟨a,0,none⟩)):=aa hrb' 2
   have HRb:=xQ hrb'
   have HGl:=xQ hgl
   have hmI:(m:Int)<=2097152:=by omega
   clear x hgl hrb hrb' hNx hmb hkc hfo hvo hvc hk a1 a2 a3 a5 a7
   have HNo:Hid (∀x,x=r∨x=gb∨x=w.1.size->x<wc.1.size∧¬dW a M v' x):=fun x hx=>by
    have hr:=HC.out.far r (.inr (.inl rfl))
    have ha:=(HC.out.far a (.inr (.inr (.inl rfl)))).2
    have hM:=(HC.out.far M (.inr (.inr (.inr rfl)))).2
    have h0:=HH.out.asd.size
    have h1:=HB1.out.size
    obtain⟨v'',g'',hk,-⟩:=HH.out.walk
    have h2:=HKc.out.off
    have h3:=HX.out.2.new
    refine⟨?_,fun hc=>?_⟩
    ·rcases hx with rfl | rfl | rfl
     ·exact ao HRb.out
     ·exact ao HGl.out
     ·exact ao HRp.out
    ·have hxw:x=r∨w.1.size<=x:=by omega
     rcases hxw with rfl | hxw
     ·have:=h2 x (.inl (HH.out.inG x (.inr (.inr rfl))))
      rcases hc with hc | hc | hc
      ·exact this.1 hc
      ·exact this.2.1 hc
      ·exact this.2.2 hc
     ·rcases hc with hc | hc | hc
      ·omega
      ·omega
      ·have:=HVl.out x hc;omega
   go_wp2_with fail
   go_region_held3 (fun w'=>w'.cell? ⟨r,1,none⟩=some (.int .i64 (X.at_:Nat))∧w'.cell? ⟨r,2,none⟩=some (.pointer (some ⟨a,0,none⟩))∧w'.cell? ⟨gb,0,none⟩=some (.int .i64 k0)∧w'.cell? ⟨gb,1,none⟩=some (.int .i64 k1)∧w'.cell? ⟨gb,2,none⟩=some (.slice sp sn sc)∧w'.cell? ⟨gb,3,none⟩=some (.int .i64 k3)∧w'.cell? ⟨gb,4,none⟩=some (.int .i64 k4)∧w'.cell? ⟨gb,5,none⟩=some (.int .i64 k5)∧w'.cell? ⟨gb,6,none⟩=some (.slice bp bn bc)∧w'.cell? ⟨gb,7,none⟩=some (.int .i64 k7)∧w'.cell? ⟨gb,8,none⟩=some (.int .i64 k8)∧w'.cell? ⟨gb,9,none⟩=some (.int .i64 k9)∧w'.cell? ⟨gb,10,none⟩=some (.slice ep en ec)) (go_keep) (first
    | (go_at_call 25;refine(HNx.out _ (by first | exact xZ.drew | exact xZ)).mono ?_;rintro e w4 ⟨rfl,v4,g4,hk4,ha4,hv4⟩;have HA4:Hid (Aside (dW a M v') wc w4):=⟨ha4.os,ha4.tape,ha4.output,ha4.size,ha4.block⟩;have HZ:Hid (∀(x i:Nat),x=r∨x=gb∨x=w.1.size->∀u,wc.cell? ⟨x,i,none⟩=some u->w4.cell? ⟨x,i,none⟩=some u):=fun x i hx u hu=>(HA4.out.cell (p:=⟨x,i,none⟩) (HNo.out x hx).1 (HNo.out x hx).2).trans hu;have y1:=HZ.out r 1 (.inl rfl) _ e1;have y2:=HZ.out r 2 (.inl rfl) _ e2;have z0:=HZ.out gb 0 (.inr (.inl rfl)) _ x0;have z1:=HZ.out gb 1 (.inr (.inl rfl)) _ x1;have z2:=HZ.out gb 2 (.inr (.inl rfl)) _ x2;have z3:=HZ.out gb 3 (.inr (.inl rfl)) _ x3;have z4:=HZ.out gb 4 (.inr (.inl rfl)) _ x4;have z5:=HZ.out gb 5 (.inr (.inl rfl)) _ x5;have z6:=HZ.out gb 6 (.inr (.inl rfl)) _ x6;have z7:=HZ.out gb 7 (.inr (.inl rfl)) _ x7;have z8:=HZ.out gb 8 (.inr (.inl rfl)) _ x8;have z9:=HZ.out gb 9 (.inr (.inl rfl)) _ x9;have z10:=HZ.out gb 10 (.inr (.inl rfl)) _ x10;have HK4:=xQ hk4;have HV4:Hid (∀i,v4.ownBlock=some i->v'.ownBlock=some i∨wc.1.size<=i):=hv4;clear hk4 ha4 hv4))
   have hrp4:=(HA4.out.block _ (HNo.out _ (.inr (.inr rfl))).1 (HNo.out _ (.inr (.inr rfl))).2).trans HRp.out
   have hrb4:=(HA4.out.block _ (HNo.out _ (.inl rfl)).1 (HNo.out _ (.inl rfl)).2).trans HRb.out
   obtain⟨D0,D1,D2,D3,D4,D5,D6,D7,D8,D9,D10⟩:=cQ11 hrp4
   have Df:=ac hrp4
   have Rf:=ac hrb4
   have hoff:∀i,dW a M v' i->¬(G i∨i=w.1.size):=fun i hi hg=>by
    have:=HKc.out.off i hg
    rcases hi with hi | hi | hi
    ·exact this.1 hi
    ·exact this.2.1 hi
    ·exact this.2.2 hi
   have HUp4:Hid (cL w4 B g v b (n+2202)):=HX.out.1.aside HA4.out (fun hc=>hoff _ hc (.inl (HH.out.inG _ (.inl rfl)))) (fun k hk hc=>hoff _ hc (.inl (HH.out.inG _ (.inr (.inl hk)))))
   have HAs4:Hid (Aside (gS g r a M) w0 w4):=HE.out.asd.trans HA4.out (fun i hi hc=>by
    rcases hc with hc | hc | hc
    ·exact .inr (.inr (.inl hc))
    ·exact .inr (.inr (.inr hc))
    ·have:=HVo.out i hc;omega)
   have HCh4:Hid (Aside (rF g r G) w w4):=(HWc.out.mono (fun _ _ h=>.inl h)).trans HA4.out (fun i _ hc=>.inr (.inr (fun hg=>hoff i hc (.inl hg))))
   have HF4:Hid (dD w4 W1.1.size (av k0 k1 sp sn sc k3 k4 k5 bp bn bc k7 k8 k9 ep en ec) f):=HFo.out.beside14 HA4.out (fun k hk=>by
    have h0:=HH.out.asd.size
    have h1:=HB1.out.size
    rcases hk with hk | hk | hk
    ·have:=(HC.out.far a (.inr (.inr (.inl rfl)))).2;omega
    ·have:=(HC.out.far M (.inr (.inr (.inr rfl)))).2;omega
    ·have:=HVl.out k hk;omega)
   have HRp4:=xQ hrp4
   have HRb4:=xQ hrb4
   have HV5:Hid (∀i,v4.ownBlock=some i->w0.1.size<=i):=fun i hi=>(HV4.out i hi).elim (fun h=>HVo.out i h) (fun h=>Nat.le_trans HE.out.asd.size h)
   have HS:Hid (mb=false->Sc.step b X=.error 143):=fun h=>by
    have h2:=HSt.out f m rfl
    rw[<-HMb.out,h,if_neg (by decide)] at h2
    exact h2
   have hT:Sc.next X.wk f (X.at_:Nat)=if mb=true then Sc.take X.wk f (X.at_:Nat) else X.wk:=by rw[HMb.out];rfl
   rw[hT] at HK4
   have hwz:w0.1.size<=w.1.size:=HH.out.asd.size
   clear hrp4 hrb4 hoff hT HNx HZ HNo HV4 d0 d1 d2 d3 d4 d5 d6 d7 d8 d9 d10 df e1 e2 x0 x1 x2 x3 x4 x5 x6 x7 x8 x9 x10
   cases mb with
   |false=>
    have hq:q=143:=HQ.out.symm
    subst hq
    clear z0 z1 z2 z3 z4 z5 z6 z7 z8 z9 z10 y1 y2 hmI hmx hml hwf hgW hlen hj hn HQ
    go_wp2
    refine bodyPost_ret (aB rfl _ _ w.1.size _ _ _ _ rfl (bm HRp4.out _ _ _ _ _ _ _ _ _ _ _) Tryz.underlying61 rfl (by kernel_rfl)) rfl ?_
    have hs:=aO w4 w.1.size (.int .i64 0) (.int .i64 0) (.slice none 0 0) (.int .i64 0) (.int .i64 0) (.int .i64 0) (.slice none 0 0) (.int .i64 0) (.int .i64 0) (.int .i64 0) (.slice none 0 0)
    have h4:RdE w0 w4 B g r a M v un lv b (n+2202) 0:=⟨HUp4.out,⟨_,HRb4.out⟩,HAs4.out⟩
    exact⟨HCh4.out.trans hs (fun i hi he=>by omega),.inl ⟨143,HS.out (by first | rfl | trivial),by omega,rfl,h4.beside HC.out hs hwz⟩⟩
   |true=>
    have hq:q=0:=HQ.out.symm
    subst hq
    have HM:Hid (X.at_<m∧m<=b.length):=⟨hmx,hml⟩
    have HWf:=xQ hwf
    have hrw:r<w0.1.size:=(HC.out.far r (.inr (.inl rfl))).2
    have n1:¬gb=r:=fun hc=>by have:=HX.out.2.new;have:=HB1.out.size;omega
    have n2:¬r=gb:=fun hc=>n1 hc.symm
    have n3:¬w.1.size=r:=by omega
    have n4:¬r=w.1.size:=by omega
    clear hmI hmx hml hwf hgW hlen hj hn HQ HS y2 hrw hwz
    go_wp2
    have hs1:Aside (fun i=>i=r) w4 (w4.setCell ⟨r,1,none⟩ (.int .i64 (m:Nat))):=ai w4 r 1 _
    have hs2:=aO (w4.setCell ⟨r,1,none⟩ (.int .i64 (m:Nat))) w.1.size (.int .i64 k0) (.int .i64 k1) (.slice sp sn sc) (.int .i64 k3) (.int .i64 k4) (.int .i64 k5) (.slice bp bn bc) (.int .i64 k7) (.int .i64 k8) (.int .i64 k9) (.slice ep en ec)
    have hwz:w0.1.size<=w.1.size:=HH.out.asd.size
    have hrw:r<w0.1.size:=(HC.out.far r (.inr (.inl rfl))).2
    have hgw:g<w0.1.size:=(HC.out.far g (.inl rfl)).2
    have hb5:=(hs1.block _ (ao HRp4.out) (by omega)).trans HRp4.out
    have hr5:=al HRb4.out 1 (.int .i64 (m:Nat))
    have hW1s:w.1.size<W1.1.size:=ao HP.out
    refine bodyPost_ret (aB rfl _ _ w.1.size _ _ _ _ rfl (bm hb5 _ _ _ _ _ _ _ _ _ _ _) Tryz.underlying61 rfl (by kernel_rfl)) rfl ?_
    have h12:Aside (fun i=>i=r∨i=w.1.size) w4 (de (w4.setCell ⟨r,1,none⟩ (.int .i64 (m:Nat))) w.1.size (.int .i64 k0) (.int .i64 k1) (.slice sp sn sc) (.int .i64 k3) (.int .i64 k4) (.int .i64 k5) (.slice bp bn bc) (.int .i64 k7) (.int .i64 k8) (.int .i64 k9) (.slice ep en ec)):=(hs1.mono (fun _ _ h=>.inl h)).trans hs2 (fun _ _ h=>.inr h)
    refine⟨HCh4.out.trans h12 (fun i hi he=>?_),.inr ⟨f,m,_,HRr.out.symm,HMb.out.symm,rfl,?_,HWf.out,HM.out.1,HM.out.2,?_⟩⟩
    ·rcases he with he | he
     ·exact .inr (.inl he)
     ·omega
    ·exact(HF4.out.beside14 h12 (fun k hk=>by omega)).low14 (Nat.le_of_lt hW1s)
    ·refine⟨?_,?_,⟨v4,g4,?_,HV5.out⟩,HH.out.inG,HAs4.out.trans h12 (fun i hi he=>?_)⟩
     ·exact HUp4.out.aside h12 (fun he=>by have:=HC.out.gr;omega) (fun k hk he=>by have:=HC.out.vr k hk;omega)
     ·exact(hs2.block _ (ao hr5) (by omega)).trans hr5
     ·exact HK4.out.aside (h12.mono fun i _ hi=>hi.elim (fun h=>.inl (HH.out.inG i (.inr (.inr h)))) .inr) (fun k hk=>.inl (.inl hk)) (fun k hk=>Nat.lt_of_lt_of_le (HK4.out.low k (.inl hk)) h12.size)
     ·rcases he with he | he
      ·exact .inr (.inl he)
      ·omega
end
end
section
open Go.RowKit Go.Shelf
structure Tx where
 q:OA
 d:Nat
 t:Tl
def tlC(x:Tx):List Value:=[.slice x.q x.t.row.length x.d,.int .i64 x.t.at_,.int .i64 x.t.num,.int .i64 0]
def o8(xs:List Tx):List Value:=(xs.map tlC).flatten
theorem qL(xs:List Tx)(j:Nat)(hj:j<xs.length)(m:Nat)(hm:m<4):(o8 xs)[j*4+m]?=(tlC xs[j])[m]? :=
 gg 4 _ (by intro u hu;obtain⟨x,-,rfl⟩:=List.mem_map.1 hu;rfl) j _ (by simp[hj]) m hm
theorem rR:(Tryz.prog.info? 38).map (fun i=>(i.zero,i.size,i.bytes))=some (some (.agg #[.slice none 0 0,.int .i64 0,.int .i64 0,.int .i64 0]),4,48):=by kernel_rfl
def TlO(w:World)(B:Nat)(v:Value)(xs:List Tx):Prop:=w.ownsRow B 38 4 v xs.length (o8 xs)
def TlS(F:Nat->Prop)(w:World)(xs:List Tx):Prop:=∀x∈xs,bI F w (fun W=>aW W x.q x.d x.t.row)
def TlL(w:World)(q:OA)(xs:List Tx):Prop:=∀k (_:k<xs.length),∃bb o,q=some ⟨bb,o,none⟩∧bb<w.1.size∧∀m,m<4->w.cell? ⟨bb,o+k*4+m,none⟩=(tlC xs[k])[m]?
section
variable {w w':World} {B:Nat} {v:Value} {xs:List Tx} {F F':Nat->Prop}
theorem TlS.step(h:TlS F w xs)(ha:Aside F w w')(hF:∀k,F' k->F k∨w.1.size<=k):TlS F' w' xs:=fun x hx=>(h x hx).step ha hF
theorem TlS.less(h:TlS F w xs)(hF:∀k,F' k->k<w.1.size->F k):TlS F' w xs:=fun x hx w' ha=>h x hx w' (ha.mono fun i hi hf=>hF i hf hi)
theorem TlS.on(h:TlS F w xs)(hb:Below w.1.size w w'):TlS F w' xs:=h.step (ag hb _) fun _ hk=>.inl hk
theorem oj(w:World)(B:Nat):TlO w B (.slice none 0 0) []:=⟨rfl,.inl ⟨rfl,rfl⟩⟩
theorem TlO.lt(h:TlO w B v xs):∀i,v.ownBlock=some i->B<=i∧i<w.1.size:=World.ownsRow.lt h
theorem TlO.aside(h:TlO w B v xs)(ha:Aside F w w')(hv:∀i,v.ownBlock=some i->¬F i):TlO w' B v xs:=by
 refine⟨h.1,?_⟩
 rcases h.2 with h5 | ⟨g,cap,cur,rfl,h6,h7,h8⟩
 ·exact .inl h5
 ·exact .inr ⟨g,cap,cur,rfl,h6,by rw[ha.block g (Array.getElem?_eq_some_iff.1 h7).1 (hv g rfl)];exact h7,h8⟩
theorem TlO.on(h:TlO w B v xs)(hb:Below w.1.size w w'):TlO w' B v xs:=h.aside (ag hb (fun _=>False)) (fun _ _=>id)
theorem TlO.form(h:TlO w B v xs):∃q c,v=.slice q xs.length c∧xs.length<=c∧TlL w q xs:=by
 rcases h.2 with ⟨rfl,h3⟩ | ⟨g,cap,cur,rfl,_,h5,h4,_,_,h10⟩
 ·exact⟨none,0,by rw[h3],by omega,fun k hk=>by omega⟩
 ·refine⟨_,_,rfl,h4,fun k hk=>⟨g,0,rfl,ao h5,fun m hm=>?_⟩⟩
  rw[<-qL xs k hk m hm,<-h10,List.getElem?_take_of_lt (by omega),Nat.zero_add,aa h5]
  simp
theorem oi(h:TlO w B v xs)(hB:B<=w.1.size)(x:Tx)(ad:Nat)(hblk:w.1[ad]?=some (.cells #[.slice x.q x.t.row.length x.d,.int .i64 x.t.at_,.int .i64 x.t.num,.int .i64 0] 38 (0,0)))(hn:xs.length<=1000000000):
  ∃g cap W,cf Tryz.prog 31 31 31 v (.slice (some ⟨ad,0,none⟩) 1 1) w (.slice (some ⟨g,0,none⟩) (xs++[x]).length cap) W∧TlO W B (.slice (some ⟨g,0,none⟩) (xs++[x]).length cap) (xs++[x])∧Aside (fun k=>v.ownBlock=some k) w W∧(v.ownBlock=some g∨w.1.size<=g):=by
 obtain⟨i,hi,hz,hsz,hby⟩:=info_parts rR
 obtain⟨g,cap,W,hr,ho,hg,hor,-⟩:=run_append_lies (P:=Tryz.prog) w 31 31 B 38 i _ 4 48 Tryz.underlying31 hi hz hsz hby rfl (by decide) v xs.length (o8 xs) h ⟨ad,0,none⟩ 1 1 (tlC x) rfl (World.news_of_block hblk) (by intro u hu;simp[tlC] at hu;rcases hu with rfl | rfl | rfl | rfl <;> rfl) (by decide) (by unfold maxLen;omega) (by omega) hB w.1.size rfl
 have hlen:(xs++[x]).length=xs.length+1:=by simp
 refine⟨g,cap,W,⟨by rw[hlen];exact hr⟩,?_,cd hg,hor.imp id (fun h=>by omega)⟩
 unfold TlO
 rw[hlen,show o8 (xs++[x])=o8 xs++tlC x by simp[o8]]
 exact ho
end
def mh(lo hi:Nat)(w:World)(q:OA)(ys:List (List V)):Prop:=∀k (_:k<ys.length),∃bb o qk dk,q=some ⟨bb,o,none⟩∧(lo<=bb∧bb<hi)∧w.cell? ⟨bb,o+k,none⟩=some (.slice qk ys[k].length dk)∧bI (fun i=>i<lo∨hi<=i) w (fun W=>aW W qk dk ys[k])
theorem mh.on{lo hi:Nat}{ys:List (List V)}(h:mh lo hi w q ys)(hs:hi<=w.1.size)(ha:Aside (fun i=>i<lo∨hi<=i) w w'):mh lo hi w' q ys:=fun k hk=>by
 obtain⟨bb,o,qk,dk,h1,h2,h3,h4⟩:=h k hk
 exact⟨bb,o,qk,dk,h1,h2,(ha.cell (p:=⟨bb,o+k,none⟩) (by show bb<_;omega) (by show ¬(bb<lo∨hi<=bb);omega)).trans h3,h4.step ha fun _ hk=>.inl hk⟩
theorem bM.still{c:Nat}{ys:List (List V)}(h:bM w B (.slice q ys.length c) ys)(hw:∀y∈ys,∀x∈y,x.wf):mh B w.1.size w q ys:=fun k hk=>by
 obtain⟨us,h1,h2⟩:=h.out
 rcases h1.2 with ⟨he,h3⟩ | ⟨g,cap,cur,he,h4,h5,h6,h7,h8,h9⟩
 ·omega
 ·injection he with e1 _ e2
  subst e1 e2
  obtain⟨qj,dj,e3,e4⟩:=h2 k hk
  refine⟨g,0,qj,dj,rfl,⟨h4,ao h5⟩,?_,fun w' ha=>⟨aR.lies (aR.aside e4 ha (fun i hi hc=>by omega)),hw _ (List.getElem_mem hk)⟩⟩
  rw[aa h5]
  rw[<-h9,List.getElem?_take] at e3
  simp only[Nat.mul_one] at e3
  rw[if_pos hk] at e3
  simpa using e3
end
end Go.Proofs.YtceomhodhmcknaaGreatDoor
