import Derived.Test.YtllbniljgcgbeaaGreatDoorK21O
set_option maxRecDepth 100000
set_option maxHeartbeats 8000000
namespace Go.Proofs.YtllbniljgcgbeaaGreatDoor
open Go.RowKit
attribute [local go_sem] ah
structure bc(w W:World)(T:TypeId)(C:AV)(e a:Int):Prop where
 par:cL W w.1.size T C e a
 size:w.1.size+4<=W.1.size
 below:Below w.1.size w W
theorem bc.step{w W W':World}{T:TypeId}{C:AV}{e a:Int}{F:Nat->Prop}(h:bc w W T C e a)(ha:Aside F W W')(hF:∀k,F k->w.1.size+2<k):bc w W' T C e a:=by
 have hs:=h.size
 exact⟨h.par.aside ha hF,Nat.le_trans hs ha.size,h.below.trans (ha.below (by omega) (fun k hk hc=>by have:=hF k hc;omega))⟩
theorem bc.setE{w W:World}{T:TypeId}{C:AV}{e a:Int}(h:bc w W T C e a)(e':Int):bc w (W.setCell ⟨w.1.size+1,0,none⟩ (.int .i64 e')) T C e' a:=by
 have hs:=h.size
 have ha:=aw W (w.1.size+1) 0 (.int .i64 e')
 exact⟨h.par.setE e',Nat.le_trans hs ha.size,h.below.trans (ha.below (by omega) (fun k hk hc=>by omega))⟩
theorem bc.setA{w W:World}{T:TypeId}{C:AV}{e a:Int}(h:bc w W T C e a)(a':Int):bc w (W.setCell ⟨w.1.size+2,0,none⟩ (.int .i64 a')) T C e a':=by
 have hs:=h.size
 have ha:=aw W (w.1.size+2) 0 (.int .i64 a')
 exact⟨h.par.setA a',Nat.le_trans hs ha.size,h.below.trans (ha.below (by omega) (fun k hk hc=>by omega))⟩
theorem bc.setT{w W V:World}{T:TypeId}{C C':AV}{e a:Int}(h:bc w W T C e a)(ha:Aside (fun i=>i=w.1.size) W V)(hb:V.1[w.1.size]?=some (.cells C' T (0,0))):bc w V T C' e a:=by
 have hs:=h.size
 exact⟨h.par.setT ha hb,Nat.le_trans hs ha.size,h.below.trans (ha.below (by omega) (fun k hk hc=>by omega))⟩
def aA{α:Type}(S:ByteArray)(y:Tx.R (α×Tx.Bs))(er:α->Nat):Except (Nat×Nat) α:=match y with
 |.error (k,n)=>.error (k,S.size-n)
 |.ok (x,r)=>if r=[] then (if er x=0 then .ok x else .error (er x,0)) else .error (5,S.size-r.length)
def fX{α:Type}(w:World)(Z:AV)(r:Except (Nat×Nat) α)(V:α->Value->World->Prop)(e:Ending)(w':World):Prop:=match r with
 |.error (k,a)=>e=.returned (.tuple #[.agg Z,.int .i64 k,.int .i64 a])∧Below w.1.size w w'
 |.ok x=>∃u,e=.returned (.tuple #[.agg u,.int .i64 0,.int .i64 0])∧V x (.agg u) w'∧Below w.1.size w w'
theorem aO{P:Program}{fn:Func}{p q r:Tmp}{ty ty2 ty3:TypeId}(h:fn.results=#[.cell p ty,.cell q ty2,.cell r ty3])(tmps:AV)(w:World)(g g2 g3:Nat)(t:TypeId)(cs:AV)(fr:Nat×Nat)(d:TypeDesc)(x y:Int)(hp:tmps.getD p undef=.pointer (some ⟨g,0,none⟩))(hg:w.1[g]?=some (.cells cs t fr))(hu:P.underlying ty=some d)(hd:(match d with | .struct _ | .array _ _=>true | _=>false)=true)(hi:(P.info? ty).map (·.size)=some cs.size)(hq:tmps.getD q undef=.pointer (some ⟨g2,0,none⟩))(hg2:w.cell? ⟨g2,0,none⟩=some (.int .i64 x))(hu2:P.underlying ty2=some (.int .i64))(hr:tmps.getD r undef=.pointer (some ⟨g3,0,none⟩))(hg3:w.cell? ⟨g3,0,none⟩=some (.int .i64 y))(hu3:P.underlying ty3=some (.int .i64)):
  (results fn tmps).run P w=.ok (.tuple #[.agg cs,.int .i64 x,.int .i64 y]) w:=by
 have hp':tmps[p]?.getD undef=.pointer (some ⟨g,0,none⟩):=by simpa using hp
 have hq':tmps[q]?.getD undef=.pointer (some ⟨g2,0,none⟩):=by simpa using hq
 have hr':tmps[r]?.getD undef=.pointer (some ⟨g3,0,none⟩):=by simpa using hr
 have h1:=run_loadVar_row w g t ty cs fr d hg hu hd hi
 have h2:(loadVar ty2 ⟨g2,0,none⟩).run P w=.ok (.int .i64 x) w:=by
  simp[go_sem,isAgg,run_underlying hu2,hg2]
 have h3:(loadVar ty3 ⟨g3,0,none⟩).run P w=.ok (.int .i64 y) w:=by
  simp[go_sem,isAgg,run_underlying hu3,hg3]
 simp[results,h,hp',hq',hr',asAddr,h1,h2,h3]
theorem cG.keep{w W w1 w2:World}{x:Ty}{v:Value}(h:cG W x v w1)(hW:w.1.size<=W.1.size)(ha:Aside (fun i=>i<W.1.size) w1 w2):cG w x v w2:=by
 obtain⟨u,hu,h⟩:=h
 have hs:=ha.size
 exact⟨u,hu,(h.aside ha (fun k hk hc=>by omega)).mono (fun k hk=>by omega)⟩
theorem bl.keep{w W w1 w2:World}{x:V}{v:Value}(h:bl W x v w1)(hW:w.1.size<=W.1.size)(ha:Aside (fun i=>i<W.1.size) w1 w2):bl w x v w2:=by
 obtain⟨u,hu,h⟩:=h
 have hs:=ha.size
 exact⟨u,hu,(h.aside ha (fun k hk hc=>by omega)).mono (fun k hk=>by omega)⟩
theorem dr.keep{w W w1 w2:World}{x:List Col}{v:Value}(h:dr W x v w1)(hW:w.1.size<=W.1.size)(ha:Aside (fun i=>i<W.1.size) w1 w2):dr w x v w2:=by
 obtain⟨q,c,hu,⟨us,Fs,h⟩,hl⟩:=h
 exact⟨q,c,hu,⟨us,Fs,(h.aside ha (fun g hg he=>by have:=(h.lt g hg).1;omega) (fun j hj k hk he=>by have:=(h.range j hj k hk).1;omega)).low hW⟩,hl⟩
theorem cY.keep{w W w1 w2:World}{x:List V}{v:Value}(h:cY W x v w1)(hW:w.1.size<=W.1.size)(ha:Aside (fun i=>i<W.1.size) w1 w2):cY w x v w2:=by
 obtain⟨q,c,hu,⟨us,Fs,h⟩,hl⟩:=h
 exact⟨q,c,hu,⟨us,Fs,(h.aside ha (fun g hg he=>by have:=(h.lt g hg).1;omega) (fun j hj k hk he=>by have:=(h.range j hj k hk).1;omega)).low hW⟩,hl⟩
theorem cG.check{W w1:World}{x:Ty}{u:AV}(h:cG W x (.agg u) w1):Calls Tryz.prog 45 #[.agg u] w1 fun e w'=>e=.returned (.int .i64 (Ty.check 1 x:Nat))∧Below w1.1.size w1 w':=by
 obtain⟨u',hu,h⟩:=h
 injection hu with hu
 rw[hu]
 exact gU x w1 u' h.lies
theorem bl.check{W w1:World}{x:V}{u:AV}(h:bl W x (.agg u) w1):Calls Tryz.prog 34 #[.agg u] w1 fun e w'=>e=.returned (.int .i64 (chk 1 x:Nat))∧Below w1.1.size w1 w':=by
 obtain⟨u',hu,h⟩:=h
 injection hu with hu
 rw[hu]
 exact jS x w1 u' h.lies
theorem dr.check{W w1:World}{x:List Col}{u:AV}(h:dr W x (.agg u) w1)(hwf:∀c∈x,c.wf):Calls Tryz.prog 22 #[.agg u] w1 fun e w'=>e=.returned (.int .i64 (Sch.err x:Nat))∧Below w1.1.size w1 w':=by
 obtain⟨q,c,hu,⟨us,Fs,h⟩,hl⟩:=h
 injection hu with hu
 rw[hu]
 obtain⟨p2,c2,hv,-,hc⟩:=h.cols (by omega)
 injection hv with h1 h2 h3
 rw[h1]
 exact mG x p2 c w1 (by omega) hc hwf
theorem cY.check{W w1:World}{x:List V}{u:AV}(h:cY W x (.agg u) w1):Calls Tryz.prog 40 #[.agg u] w1 fun e w'=>e=.returned (.int .i64 (aE x:Nat))∧Below w1.1.size w1 w':=by
 obtain⟨q,c,hu,⟨us,Fs,h⟩,hl⟩:=h
 injection hu with hu
 rw[hu]
 obtain⟨p2,c2,hv,hown⟩:=h.done (by omega) 7 0 0 ⟨#[]⟩
 injection hv with h1 h2 h3
 obtain⟨p3,c3,hu3,-,-,hi⟩:=hown.lies.open
 unfold cells5 at hu3
 simp at hu3
 rw[h1,hu3.1]
 exact jl x p3 c w1 hi (by omega)
theorem jP{rf:Tx.Bs->Option Nat}(hRf:bP rf){n:Nat}{l r:Tx.Bs}{xs:List Col}(h:Tx.pseq (Tx.pcol rf) n l=.ok (xs,r))(hl:l.length<=140737488351232):∀c∈xs,c.wf:=by
 obtain⟨-,-,h3⟩:=Tx.pseq_fore (pr:=Tx.col text) (fun l x r hp=>(Tx.pcol_fore (cQ hRf) hp).1) n l xs r h
 intro c hc
 obtain⟨l',r',h4,h5⟩:=h3 c hc
 exact(Tx.pcol_fore (cQ hRf) h4).2.2 (by omega)
theorem nH(S:ByteArray)(hS:S.size<=140737488351232)(w:World)(hv:Hv w):Calls Tryz.prog 43 #[.string S,.func (.func 44) #[] #[],.func (.func 45) #[] #[]] w (fX w #[.int .i64 0,.slice none 0 0] (aA S (Tx.pty 4 S.data.toList) (Ty.check 1)) (cG w)):=by
 have hmf:∀(fn:Fn) (first cap:AV) (w:World),(Instr.makeFunc fn first cap).run Tryz.prog w=.ok (.func fn first cap) w:=fun _ _ _ _=>rfl
 obtain⟨W,hW⟩:∃W,W=(((w.alloc (.cells #[.int .i64 0,.slice none 0 0] 32)).alloc (.cells #[.int .i64 0] 26)).alloc (.cells #[.int .i64 0] 3)).alloc (.cells #[.string S,.int .i64 0] 90):=⟨_,rfl⟩
 have hI:bc w W 32 #[.int .i64 0,.slice none 0 0] 0 0:=by
  have hb:Below w.1.size w W:=by rw[hW];exact((tY.alloc (by simp) _).alloc (by simp <;> omega) _).alloc (by simp <;> omega) _
  refine⟨⟨?_,?_,?_⟩,by rw[hW];simp,hb⟩
  ·rw[hW,ao _ _ (by simp <;> omega),ao _ _ (by simp <;> omega),ao _ _ (by simp)];exact aj w _
  ·rw[hW,ao _ _ (by simp <;> omega),ao _ _ (by simp)]
   have:=aj (w.alloc (.cells #[.int .i64 0,.slice none 0 0] 32)) (.cells #[.int .i64 0] 26)
   simpa using this
  ·rw[hW,ao _ _ (by simp)]
   have:=aj ((w.alloc (.cells #[.int .i64 0,.slice none 0 0] 32)).alloc (.cells #[.int .i64 0] 26)) (.cells #[.int .i64 0] 3)
   have e:((w.alloc (.cells #[.int .i64 0,.slice none 0 0] 32)).alloc (.cells #[.int .i64 0] 26)).1.size=w.1.size+2:=by simp
   rw[e] at this
   exact this
 have hSl:S.data.toList.length=S.size:=by show S.data.toList.length=S.data.size;simp
 have hlow:=hv.size
 have hPl:W.1[w.1.size+1+1+1]?=some (.cells (psC S 0) 90 (0,0)):=by
  rw[hW]
  have:=aj (((w.alloc (.cells #[.int .i64 0,.slice none 0 0] 32)).alloc (.cells #[.int .i64 0] 26)).alloc (.cells #[.int .i64 0] 3)) (.cells #[.string S,.int .i64 0] 90)
  have e:(((w.alloc (.cells #[.int .i64 0,.slice none 0 0] 32)).alloc (.cells #[.int .i64 0] 26)).alloc (.cells #[.int .i64 0] 3)).1.size=w.1.size+1+1+1:=by simp
  rw[e] at this
  exact this
 have HPrs:Hid (∀W',W'.1[w.1.size+1+1+1]?=some (.cells (psC S 0) 90 (0,0))->Below w.1.size w W'->Prs W' (w.1.size+1+1+1) S S.data.toList):=fun W' h1 h2=>⟨by rw[hSl,Nat.sub_self];exact h1,by rw[hSl,Nat.sub_self];rfl,by omega,by omega,by omega,hv.on h2 hlow⟩
 have hP:Prs W (w.1.size+1+1+1) S S.data.toList:=HPrs.out W hPl hI.below
 have HC:=tQ (lu hP)
 obtain⟨Y,hY⟩:∃Y,Y=Tx.pty 4 S.data.toList:=⟨_,rfl⟩
 rw[<-hY] at HC ⊢
 obtain⟨r,hr⟩:∃r,r=aA S Y (Ty.check 1):=⟨_,rfl⟩
 rw[<-hr]
 have HR:=tQ hr
 have HY:=tQ hY
 have HW:=tQ hW
 have HI:=tQ hI
 have HSl:=tQ hSl
 have HLow:=tQ hlow
 have hsm:S.size<=140737488351232:=by omega
 -- a panic that goes through the door
 have HDoor:Hid (∀(k a:Nat) (W2:World) (x0 x1:Value) (e0 a0:Int),r=.error (k,a)->bc w W2 32 #[x0,x1] e0 a0->∀(tmps:AV) (ds:List Deferred),tmps.getD 6 undef=.pointer (some ⟨w.1.size,0,none⟩)->tmps.getD 7 undef=.pointer (some ⟨w.1.size+1,0,none⟩)->tmps.getD 8 undef=.pointer (some ⟨w.1.size+2,0,none⟩)->ds=[{ target:=.fn (.func 76) #[.pointer (some ⟨w.1.size,0,none⟩),.pointer (some ⟨w.1.size+1,0,none⟩),.pointer (some ⟨w.1.size+2,0,none⟩)],args:=#[] }]->bodyPostD Tryz.prog Tryz.f43 (fX w #[.int .i64 0,.slice none 0 0] r (cG w)) (Exit.panic (dN k a)) { tmps:=tmps,defers:=ds } W2):=by
  intro k a W2 x0 x1 e0 a0 he hI tmps ds h6 h7 h8 hds
  subst hds
  refine leaves_cons (f:=76) (args:=#[.pointer (some ⟨w.1.size,0,none⟩),.pointer (some ⟨w.1.size+1,0,none⟩),.pointer (some ⟨w.1.size+2,0,none⟩)]) (by simp) (by simp[go_sem]) ?_
  refine(od w.1.size x0 x1 e0 a0 k a W2 hI.par).mono ?_
  rintro e u' w'' ⟨rfl,rfl,hB,hA⟩
  have hs:=hI.size
  refine⟨_,aO rfl tmps _ w.1.size (w.1.size+1) (w.1.size+2) _ #[.int .i64 0,.slice none 0 0] _ _ (k:Int) (a:Int) h6 hB.b0 Tryz.underlying32 rfl (by kernel_rfl) h7 (ab hB.b1 0) Tryz.underlying26 h8 (ab hB.b2 0) Tryz.underlying3,?_⟩
  rw[he]
  exact⟨rfl,hI.below.trans (hA.below (by omega) (fun k hk hc=>by omega))⟩
 clear hr hY hW hI hSl hPl hP hv hS hlow
 cases Y with
 |error er=>
  obtain⟨ek,en⟩:=er
  have HRe:Hid (r=.error (ek,S.size-en)):=HR.out
  clear HR
  go_enter_defers Tryz.func43,Tryz.ntmps43
  go_wp2_with fail
  rw[<-HW.out]
  refine HC.out.mono ?_
  intro e w1 hh
  obtain⟨he,ha⟩:=hh.bad
  subst he
  have HI1:=tQ (HI.out.step ha (fun k hk=>by omega))
  clear hh ha HC
  go_wp2
  exact HDoor.out ek (S.size-en) w1 _ _ _ _ HRe.out HI1.out _ _ rfl rfl rfl rfl
 |ok z=>
  obtain⟨x,rest⟩:=z
  have HRk:Hid (r=if rest=[] then (if Ty.check 1 x=0 then .ok x else .error (Ty.check 1 x,0)) else .error (5,S.size-rest.length)):=HR.out
  clear HR
  go_enter_defers Tryz.func43,Tryz.ntmps43
  go_wp2_with fail
  rw[<-HW.out]
  refine HC.out.mono ?_
  intro e w1 hh
  obtain⟨v1,he,hv1,hp1,ha1⟩:=hh.good
  obtain⟨u1,hu1,hown1⟩:=hv1.open
  obtain⟨k1,p1,n1,c1,hsh⟩:=hown1.shape
  subst hsh
  unfold al at hu1
  subst hu1
  subst he
  have HV1:=tQ hv1
  have hI1:=HI.out.step ha1 (fun k hk=>by omega)
  have hs1:=hI1.size
  have m0:w1.cell? ⟨w.1.size,0,none⟩=some (.int .i64 0):=ab hI1.par.b0 0
  have mf0:=ac hI1.par.b0 0
  have m1:w1.cell? ⟨w.1.size,1,none⟩=some (.slice none 0 0):=ab hI1.par.b0 1
  have mf1:=ac hI1.par.b0 1
  have p1c:w1.cell? ⟨w.1.size+1+1+1,1,none⟩=some (.int .i64 ((S.size-rest.length:Nat):Int)):=hp1.cell 1
  have p1t:=hp1.thawed 1
  have hle:=hp1.le
  obtain⟨V,hV⟩:∃V,V=((w1.setCell ⟨w.1.size,0,none⟩ (.int .i64 k1)).setCell ⟨w.1.size,1,none⟩ (.slice p1 n1 c1)):=⟨_,rfl⟩
  have haV:Aside (fun i=>i=w.1.size) w1 V:=by rw[hV];exact(((Aside.refl (fun i=>i=w.1.size) w1).setCell (p:=⟨w.1.size,0,none⟩) (.inl rfl) _).setCell (p:=⟨w.1.size,1,none⟩) (.inl rfl) _)
  have hbV:V.1[w.1.size]?=some (.cells #[.int .i64 k1,.slice p1 n1 c1] 32 (0,0)):=by rw[hV,ai (ai hI1.par.b0 0 _) 1 _];rfl
  have HIV:=tQ (hI1.setT haV hbV)
  have HPV:Hid (Prs V (w.1.size+1+1+1) S rest):=⟨(haV.block _ hp1.lt (by omega)).trans hp1.lies,hp1.suf,hp1.le,hp1.small,hp1.low,hp1.hv.aside haV (fun k hk=>by have:=HLow.out;omega)⟩
  have HVe:=tQ hV
  have HA1:=tQ ha1
  have hWs:W.1.size=w.1.size+1+1+1+1:=by rw[HW.out];simp
  have HWs:=tQ hWs
  have hPN:¬w.1.size+1+1+1=w.1.size:=by omega
  have hPN2:¬w.1.size=w.1.size+1+1+1:=by omega
  have hEN:¬w.1.size+1=w.1.size:=by omega
  have hEN2:¬w.1.size=w.1.size+1:=by omega
  have hPE:¬w.1.size+1+1+1=w.1.size+1:=by omega
  have hPE2:¬w.1.size+1=w.1.size+1+1+1:=by omega
  have hAN:¬w.1.size+1+1=w.1.size:=by omega
  have hAN2:¬w.1.size=w.1.size+1+1:=by omega
  have hAE:¬w.1.size+1+1=w.1.size+1:=by omega
  have hAE2:¬w.1.size+1=w.1.size+1+1:=by omega
  clear hh hp1 ha1 HC HW hV hI1
  by_cases hr0:rest=[]
  case neg=>
   have HRe:Hid (r=.error (5,S.size-rest.length)):=HRk.out.trans (if_neg hr0)
   have hrl:0<rest.length:=List.length_pos_iff.2 hr0
   have g1:(((S.size-rest.length:Nat):Int)==(S.size:Int))=false:=bh (by omega)
   have HNd:=tQ (aN HPV.out 5 rest.length rfl)
   obtain⟨at1,hat1⟩:∃at1:Int,at1=((S.size-rest.length:Nat):Int):=⟨_,rfl⟩
   rw[<-hat1] at p1c g1
   clear hr0 hrl HRk hat1 haV hbV hWs hv1 hle
   go_wp2_with fail
   rw[<-HVe.out]
   refine HNd.out.mono ?_
   rintro e w2 ⟨rfl,hw2⟩
   rw[hw2]
   clear hw2 w2 HNd
   go_wp2
   exact HDoor.out 5 (S.size-rest.length) V _ _ _ _ HRe.out HIV.out _ _ rfl rfl rfl rfl
  subst hr0
  have g1:(((S.size-([]:Tx.Bs).length:Nat):Int)==(S.size:Int))=true:=by simp
  have HR2:Hid (r=if Ty.check 1 x=0 then .ok x else .error (Ty.check 1 x,0)):=HRk.out.trans (if_pos rfl)
  obtain⟨at1,hat1⟩:∃at1:Int,at1=((S.size-([]:Tx.Bs).length:Nat):Int):=⟨_,rfl⟩
  rw[<-hat1] at p1c g1
  obtain⟨V2,hV2⟩:∃V2,V2=V.setCell ⟨w.1.size+1+1+1,1,none⟩ (.int .i64 0):=⟨_,rfl⟩
  have ha2:Aside (fun i=>i=w.1.size+1+1+1) V V2:=by rw[hV2];exact aw _ _ _ _
  have hI2:=HIV.out.step ha2 (fun k hk=>by omega)
  have hP2:Prs V2 (w.1.size+1+1+1) S S.data.toList:=HPrs.out V2 (by rw[hV2,ai HPV.out.lies 1];rfl) hI2.below
  have hX2:cG W x (.agg #[.int .i64 k1,.slice p1 n1 c1]) V2:=cG.keep hv1 tX ((haV.mono (G:=fun i=>i<W.1.size) (fun i _ he=>by omega)).trans ha2 (fun i _ he=>by omega))
  have HCk:=tQ (cG.check hX2)
  obtain⟨er,her⟩:∃er,er=Ty.check 1 x:=⟨_,rfl⟩
  rw[<-her] at HR2 HCk
  have HA2:Hid (Aside (fun i=>i<W.1.size) w1 V2):=(haV.mono (G:=fun i=>i<W.1.size) (fun i _ he=>by omega)).trans ha2 (fun i _ he=>by omega)
  have HP2:=tQ hP2
  have HI2:=tQ hI2
  have HV2:Hid (V2=((w1.setCell ⟨w.1.size,0,none⟩ (.int .i64 k1)).setCell ⟨w.1.size,1,none⟩ (.slice p1 n1 c1)).setCell ⟨w.1.size+1+1+1,1,none⟩ (.int .i64 0)):=by show _=_;rw[hV2,HVe.out]
  clear hat1 hV2 ha2 hP2 hX2 her haV hbV hI2 HRk hle
  go_wp2_with fail
  refine(aV _ 5 _).mono ?_
  rintro e w2 ⟨rfl,hw2⟩
  rw[hw2]
  clear hw2 w2
  go_wp2_with fail
  rw[<-HV2.out]
  refine HCk.out.mono ?_
  rintro e w3 ⟨rfl,hb3⟩
  have hI3:=HI2.out.step (ag hb3 (fun _=>False)) (fun _ h=>h.elim)
  have HI3:=tQ hI3
  have HP3:=tQ (HP2.out.on hb3)
  have HA3:=tQ (HA2.out.trans (ag hb3 (fun _=>False)) (fun _ _ h=>h.elim))
  have e3:w3.cell? ⟨w.1.size+1,0,none⟩=some (.int .i64 0):=ab hI3.par.b1 0
  have ef3:=ac hI3.par.b1 0
  have a3:w3.cell? ⟨w.1.size+1+1,0,none⟩=some (.int .i64 0):=ab hI3.par.b2 0
  have af3:w3.frozen? ⟨w.1.size+1+1,0,none⟩=false:=ac hI3.par.b2 0
  have s0:w3.cell? ⟨w.1.size,0,none⟩=some (.int .i64 k1):=ab hI3.par.b0 0
  have sf0:=ac hI3.par.b0 0
  have s1:w3.cell? ⟨w.1.size,1,none⟩=some (.slice p1 n1 c1):=ab hI3.par.b0 1
  have sf1:=ac hI3.par.b0 1
  clear hb3 hI3 HCk HV2 HVe HIV HPV m0 mf0 m1 mf1 p1c p1t
  by_cases h0:er=0
  ·subst h0
   have HRo:Hid (r=.ok x):=HR2.out.trans (if_pos rfl)
   have g2:((0:Int)==0)=true:=rfl
   have HFin:Hid (∀w5,w5=((((w3.setCell ⟨w.1.size+1,0,none⟩ (.int .i64 0)).setCell ⟨w.1.size,0,none⟩ (.int .i64 k1)).setCell ⟨w.1.size,1,none⟩ (.slice p1 n1 c1)).setCell ⟨w.1.size+1,0,none⟩ (.int .i64 0)).setCell ⟨w.1.size+1+1,0,none⟩ (.int .i64 0)->bc w w5 32 #[.int .i64 k1,.slice p1 n1 c1] 0 0∧cG w x (.agg #[.int .i64 k1,.slice p1 n1 c1]) w5):=fun w5 hw5=>by
    have hs3:=HI3.out.size
    have hE:=HI3.out.setE 0
    have hE0:=aw w3 (w.1.size+1) 0 (.int .i64 0)
    obtain⟨X,hX⟩:∃X,X=w3.setCell ⟨w.1.size+1,0,none⟩ (.int .i64 0):=⟨_,rfl⟩
    rw[<-hX] at hE hE0 hw5
    obtain⟨X2,hX2⟩:∃X2,X2=((X.setCell ⟨w.1.size,0,none⟩ (.int .i64 k1)).setCell ⟨w.1.size,1,none⟩ (.slice p1 n1 c1)):=⟨_,rfl⟩
    have haX:Aside (fun i=>i=w.1.size) X X2:=by rw[hX2];exact(((Aside.refl (fun i=>i=w.1.size) X).setCell (p:=⟨w.1.size,0,none⟩) (.inl rfl) _).setCell (p:=⟨w.1.size,1,none⟩) (.inl rfl) _)
    have hbX:X2.1[w.1.size]?=some (.cells #[.int .i64 k1,.slice p1 n1 c1] 32 (0,0)):=by rw[hX2,ai (ai hE.par.b0 0 _) 1 _];rfl
    have hT:=((hE.setT haX hbX).setE 0).setA 0
    rw[hX2,<-hw5] at hT
    refine⟨hT,cG.keep HV1.out (by have:=HWs.out;omega) ?_⟩
    have hA:=((((HA3.out.trans hE0 (fun i _ he=>by have:=HWs.out;omega)).trans haX (fun i _ he=>by have:=HWs.out;omega)).trans (aw X2 (w.1.size+1) 0 (.int .i64 0)) (fun i _ he=>by have:=HWs.out;omega)).trans (aw _ (w.1.size+1+1) 0 (.int .i64 0)) (fun i _ he=>by have:=HWs.out;omega))
    rw[hX2,<-hw5] at hA
    exact hA
   clear HR2
   go_wp2_with fail
   refine(aV _ 0 _).mono ?_
   rintro e w4 ⟨rfl,hw4⟩
   rw[hw4]
   clear hw4 w4
   go_wp2
   refine leaves_cons (f:=76) (args:=#[.pointer (some ⟨w.1.size,0,none⟩),.pointer (some ⟨w.1.size+1,0,none⟩),.pointer (some ⟨w.1.size+1+1,0,none⟩)]) (by simp) (by simp[go_sem]) ?_
   refine(pJ ⟨w.1.size,0,none⟩ ⟨w.1.size+1,0,none⟩ ⟨w.1.size+1+1,0,none⟩ _).mono ?_
   rintro e u' w'' ⟨rfl,rfl,rfl⟩
   obtain⟨f1,f2⟩:=HFin.out _ rfl
   refine⟨_,aO rfl _ _ w.1.size (w.1.size+1) (w.1.size+1+1) _ #[.int .i64 k1,.slice p1 n1 c1] _ _ 0 0 rfl f1.par.b0 Tryz.underlying32 rfl (by kernel_rfl) rfl (ab f1.par.b1 0) Tryz.underlying26 rfl (ab f1.par.b2 0) Tryz.underlying3,?_⟩
   rw[HRo.out]
   exact⟨_,rfl,f2,f1.below⟩
  ·have HRe:Hid (r=.error (er,0)):=HR2.out.trans (if_neg h0)
   have g2:((er:Int)==0)=false:=bh (by omega)
   have hI4:=HI3.out.setE er
   have HI4:=tQ hI4
   have hA4:=aw w3 (w.1.size+1) 0 (.int .i64 (er:Int))
   have HNd:Hid (Calls Tryz.prog 48 #[.pointer (some ⟨w.1.size+1+1+1,0,none⟩),.bool false,.int .i64 (er:Nat)] (w3.setCell ⟨w.1.size+1,0,none⟩ (.int .i64 (er:Int))) fun e w'=>e=.panicked (dN er (S.size-S.data.toList.length))∧w'=w3.setCell ⟨w.1.size+1,0,none⟩ (.int .i64 (er:Int))) :=
    aN (l:=S.data.toList) (HPrs.out _ ((hA4.block _ HP3.out.lt hPE).trans (by have:=HP3.out.lies;rw[HSl.out,Nat.sub_self] at this;exact this)) hI4.below) er S.data.toList.length rfl
   rw[HSl.out,Nat.sub_self] at HNd
   clear HR2 h0 hI4 hA4
   go_wp2_with fail
   refine HNd.out.mono ?_
   rintro e w4 ⟨rfl,hw4⟩
   rw[hw4]
   clear hw4 w4 HNd
   go_wp2
   exact HDoor.out er 0 _ _ _ _ _ HRe.out HI4.out _ _ rfl rfl rfl rfl
theorem mo(S:ByteArray)(hS:S.size<=140737488351232)(w:World)(hv:Hv w):Calls Tryz.prog 18 #[.string S] w (fX w #[.int .i64 0,.slice none 0 0] (aA S (Tx.pty 4 S.data.toList) (Ty.check 1)) (cG w)):=by
 obtain⟨W0,hW0⟩:∃W0,W0=w.alloc (.cells #[.int .i64 0,.slice none 0 0] 32):=⟨_,rfl⟩
 have HB0:Hid (Below w.1.size w W0):=by rw[hW0];exact tY
 have HN0:Hid (W0.1[w.1.size]?=some (.cells #[.int .i64 0,.slice none 0 0] 32 (0,0))):=by rw[hW0];exact aj w _
 have HW0:=tQ hW0
 have HC:=tQ (nH S hS W0 (hv.on HB0.out hv.size))
 obtain⟨r,hr⟩:∃r,r=aA S (Tx.pty 4 S.data.toList) (Ty.check 1):=⟨_,rfl⟩
 rw[<-hr] at HC ⊢
 clear hr hW0 hv hS
 go_enter Tryz.func18,Tryz.ntmps18
 go_wp2_with fail
 rw[<-HW0.out]
 refine HC.out.mono ?_
 intro e w1 hh
 cases r with
 |error er=>
  obtain⟨ek,ea⟩:=er
  obtain⟨he,hb1⟩:=hh
  subst he
  have HN1:Hid (w1.1[w.1.size]?=some (.cells #[.int .i64 0,.slice none 0 0] 32 (0,0))):=ay HN0.out hb1 (ae HN0.out)
  have m0:w1.cell? ⟨w.1.size,0,none⟩=some (.int .i64 0):=ab HN1.out 0
  have mf0:=ac HN1.out 0
  have m1:w1.cell? ⟨w.1.size,1,none⟩=some (.slice none 0 0):=ab HN1.out 1
  have mf1:=ac HN1.out 1
  obtain⟨X,hX⟩:∃X,X=((w1.setCell ⟨w.1.size,0,none⟩ (.int .i64 0)).setCell ⟨w.1.size,1,none⟩ (.slice none 0 0)):=⟨_,rfl⟩
  have HX:Hid (X.1[w.1.size]?=some (.cells #[.int .i64 0,.slice none 0 0] 32 (0,0))∧Below w.1.size w X):=by
   have haX:Aside (fun i=>i=w.1.size) w1 X:=by rw[hX];exact(((Aside.refl (fun i=>i=w.1.size) w1).setCell (p:=⟨w.1.size,0,none⟩) (.inl rfl) _).setCell (p:=⟨w.1.size,1,none⟩) (.inl rfl) _)
   have hb:=HB0.out.trans (hb1.mono HB0.out.size)
   exact⟨by rw[hX,ai (ai HN1.out 0 _) 1 _];rfl,hb.trans (haX.below hb.size (fun k hk he=>by omega))⟩
  have HXe:=tQ hX
  clear hb1 HC hX
  go_wp2
  rw[<-HXe.out]
  refine bodyPost_ret (au rfl _ _ w.1.size _ _ _ _ rfl HX.out.1 Tryz.underlying32 rfl (by kernel_rfl)) rfl ?_
  exact⟨rfl,HX.out.2⟩
 |ok x=>
  obtain⟨u,he,hv1,hb1⟩:=hh
  obtain⟨u1,hu1,hown1⟩:=hv1.open
  obtain⟨k1,p1,n1,c1,hsh⟩:=hown1.shape
  injection hu1 with hu1
  subst hu1
  subst hsh
  unfold al at hv1 he
  clear hown1
  subst he
  have HN1:Hid (w1.1[w.1.size]?=some (.cells #[.int .i64 0,.slice none 0 0] 32 (0,0))):=ay HN0.out hb1 (ae HN0.out)
  have m0:w1.cell? ⟨w.1.size,0,none⟩=some (.int .i64 0):=ab HN1.out 0
  have mf0:=ac HN1.out 0
  have m1:w1.cell? ⟨w.1.size,1,none⟩=some (.slice none 0 0):=ab HN1.out 1
  have mf1:=ac HN1.out 1
  obtain⟨X,hX⟩:∃X,X=((w1.setCell ⟨w.1.size,0,none⟩ (.int .i64 k1)).setCell ⟨w.1.size,1,none⟩ (.slice p1 n1 c1)):=⟨_,rfl⟩
  have HX:Hid (X.1[w.1.size]?=some (.cells #[.int .i64 k1,.slice p1 n1 c1] 32 (0,0))∧Below w.1.size w X∧cG w x (.agg #[.int .i64 k1,.slice p1 n1 c1]) X):=by
   have haX:Aside (fun i=>i=w.1.size) w1 X:=by rw[hX];exact(((Aside.refl (fun i=>i=w.1.size) w1).setCell (p:=⟨w.1.size,0,none⟩) (.inl rfl) _).setCell (p:=⟨w.1.size,1,none⟩) (.inl rfl) _)
   have hb:=HB0.out.trans (hb1.mono HB0.out.size)
   have hl:=ae HN0.out
   exact⟨by rw[hX,ai (ai HN1.out 0 _) 1 _];rfl,hb.trans (haX.below hb.size (fun k hk he=>by omega)),cG.keep hv1 (by omega) (haX.mono (fun i _ he=>by omega))⟩
  have HXe:=tQ hX
  clear hb1 HC hX hv1
  go_wp2
  rw[<-HXe.out]
  refine bodyPost_ret (au rfl _ _ w.1.size _ _ _ _ rfl HX.out.1 Tryz.underlying32 rfl (by kernel_rfl)) rfl ?_
  exact⟨_,rfl,HX.out.2.2,HX.out.2.1⟩
theorem kB{rf:Tx.Bs->Option Nat}(hRf:bP rf)(S:ByteArray)(hS:S.size<=1099511627776)(w:World)(hv:Hv w):Calls Tryz.prog 20 #[.string S,.func (.func 21) #[] #[],.func (.func 22) #[] #[]] w (fX w #[.slice none 0 0] (aA S (Tx.pseq (Tx.pcol rf) (S.data.toList.length+1) S.data.toList) (Sch.err)) (dr w)):=by
 have hmf:∀(fn:Fn) (first cap:AV) (w:World),(Instr.makeFunc fn first cap).run Tryz.prog w=.ok (.func fn first cap) w:=fun _ _ _ _=>rfl
 obtain⟨W,hW⟩:∃W,W=(((w.alloc (.cells #[.slice none 0 0] 25)).alloc (.cells #[.int .i64 0] 26)).alloc (.cells #[.int .i64 0] 3)).alloc (.cells #[.string S,.int .i64 0] 90):=⟨_,rfl⟩
 have hI:bc w W 25 #[.slice none 0 0] 0 0:=by
  have hb:Below w.1.size w W:=by rw[hW];exact((tY.alloc (by simp) _).alloc (by simp <;> omega) _).alloc (by simp <;> omega) _
  refine⟨⟨?_,?_,?_⟩,by rw[hW];simp,hb⟩
  ·rw[hW,ao _ _ (by simp <;> omega),ao _ _ (by simp <;> omega),ao _ _ (by simp)];exact aj w _
  ·rw[hW,ao _ _ (by simp <;> omega),ao _ _ (by simp)]
   have:=aj (w.alloc (.cells #[.slice none 0 0] 25)) (.cells #[.int .i64 0] 26)
   simpa using this
  ·rw[hW,ao _ _ (by simp)]
   have:=aj ((w.alloc (.cells #[.slice none 0 0] 25)).alloc (.cells #[.int .i64 0] 26)) (.cells #[.int .i64 0] 3)
   have e:((w.alloc (.cells #[.slice none 0 0] 25)).alloc (.cells #[.int .i64 0] 26)).1.size=w.1.size+2:=by simp
   rw[e] at this
   exact this
 have hSl:S.data.toList.length=S.size:=by show S.data.toList.length=S.data.size;simp
 have hlow:=hv.size
 have hPl:W.1[w.1.size+1+1+1]?=some (.cells (psC S 0) 90 (0,0)):=by
  rw[hW]
  have:=aj (((w.alloc (.cells #[.slice none 0 0] 25)).alloc (.cells #[.int .i64 0] 26)).alloc (.cells #[.int .i64 0] 3)) (.cells #[.string S,.int .i64 0] 90)
  have e:(((w.alloc (.cells #[.slice none 0 0] 25)).alloc (.cells #[.int .i64 0] 26)).alloc (.cells #[.int .i64 0] 3)).1.size=w.1.size+1+1+1:=by simp
  rw[e] at this
  exact this
 have HPrs:Hid (∀W',W'.1[w.1.size+1+1+1]?=some (.cells (psC S 0) 90 (0,0))->Below w.1.size w W'->Prs W' (w.1.size+1+1+1) S S.data.toList):=fun W' h1 h2=>⟨by rw[hSl,Nat.sub_self];exact h1,by rw[hSl,Nat.sub_self];rfl,by omega,by omega,by omega,hv.on h2 hlow⟩
 have hP:Prs W (w.1.size+1+1+1) S S.data.toList:=HPrs.out W hPl hI.below
 have HC:=tQ (jq hRf hP hS)
 obtain⟨Y,hY⟩:∃Y,Y=Tx.pseq (Tx.pcol rf) (S.data.toList.length+1) S.data.toList:=⟨_,rfl⟩
 rw[<-hY] at HC ⊢
 obtain⟨r,hr⟩:∃r,r=aA S Y (Sch.err):=⟨_,rfl⟩
 rw[<-hr]
 have HR:=tQ hr
 have HY:=tQ hY
 have HW:=tQ hW
 have HI:=tQ hI
 have HSl:=tQ hSl
 have HLow:=tQ hlow
 have HRf:=tQ hRf
 have hsm:S.size<=140737488351232:=by omega
 -- a panic that goes through the door
 have HDoor:Hid (∀(k a:Nat) (W2:World) (x0:Value) (e0 a0:Int),r=.error (k,a)->bc w W2 25 #[x0] e0 a0->∀(tmps:AV) (ds:List Deferred),tmps.getD 6 undef=.pointer (some ⟨w.1.size,0,none⟩)->tmps.getD 7 undef=.pointer (some ⟨w.1.size+1,0,none⟩)->tmps.getD 8 undef=.pointer (some ⟨w.1.size+2,0,none⟩)->ds=[{ target:=.fn (.func 47) #[.pointer (some ⟨w.1.size,0,none⟩),.pointer (some ⟨w.1.size+1,0,none⟩),.pointer (some ⟨w.1.size+2,0,none⟩)],args:=#[] }]->bodyPostD Tryz.prog Tryz.f20 (fX w #[.slice none 0 0] r (dr w)) (Exit.panic (dN k a)) { tmps:=tmps,defers:=ds } W2):=by
  intro k a W2 x0 e0 a0 he hI tmps ds h6 h7 h8 hds
  subst hds
  refine leaves_cons (f:=47) (args:=#[.pointer (some ⟨w.1.size,0,none⟩),.pointer (some ⟨w.1.size+1,0,none⟩),.pointer (some ⟨w.1.size+2,0,none⟩)]) (by simp) (by simp[go_sem]) ?_
  refine(kZ w.1.size x0 e0 a0 k a W2 hI.par).mono ?_
  rintro e u' w'' ⟨rfl,rfl,hB,hA⟩
  have hs:=hI.size
  refine⟨_,aO rfl tmps _ w.1.size (w.1.size+1) (w.1.size+2) _ #[.slice none 0 0] _ _ (k:Int) (a:Int) h6 hB.b0 Tryz.underlying25 rfl (by kernel_rfl) h7 (ab hB.b1 0) Tryz.underlying26 h8 (ab hB.b2 0) Tryz.underlying3,?_⟩
  rw[he]
  exact⟨rfl,hI.below.trans (hA.below (by omega) (fun k hk hc=>by omega))⟩
 clear hr hY hW hI hSl hPl hP hv hS hlow
 cases Y with
 |error er=>
  obtain⟨ek,en⟩:=er
  have HRe:Hid (r=.error (ek,S.size-en)):=HR.out
  clear HR
  go_enter_defers Tryz.func20,Tryz.ntmps20
  go_wp2_with fail
  rw[<-HW.out]
  refine HC.out.mono ?_
  intro e w1 hh
  obtain⟨he,ha⟩:=hh.bad
  subst he
  have HI1:=tQ (HI.out.step ha (fun k hk=>by omega))
  clear hh ha HC
  go_wp2
  exact HDoor.out ek (S.size-en) w1 _ _ _ HRe.out HI1.out _ _ rfl rfl rfl rfl
 |ok z=>
  obtain⟨x,rest⟩:=z
  have HRk:Hid (r=if rest=[] then (if Sch.err x=0 then .ok x else .error (Sch.err x,0)) else .error (5,S.size-rest.length)):=HR.out
  clear HR
  go_enter_defers Tryz.func20,Tryz.ntmps20
  go_wp2_with fail
  rw[<-HW.out]
  refine HC.out.mono ?_
  intro e w1 hh
  obtain⟨v1,he,hv1,hp1,ha1⟩:=hh.good
  obtain⟨q1,c1,hu1,-⟩:=hv1.open
  subst hu1
  subst he
  have HV1:=tQ hv1
  have hI1:=HI.out.step ha1 (fun k hk=>by omega)
  have hs1:=hI1.size
  have m0:w1.cell? ⟨w.1.size,0,none⟩=some (.slice none 0 0):=ab hI1.par.b0 0
  have mf0:=ac hI1.par.b0 0
  have p1c:w1.cell? ⟨w.1.size+1+1+1,1,none⟩=some (.int .i64 ((S.size-rest.length:Nat):Int)):=hp1.cell 1
  have p1t:=hp1.thawed 1
  have hle:=hp1.le
  obtain⟨V,hV⟩:∃V,V=(w1.setCell ⟨w.1.size,0,none⟩ (.slice q1 x.length c1)):=⟨_,rfl⟩
  have haV:Aside (fun i=>i=w.1.size) w1 V:=by rw[hV];exact((Aside.refl (fun i=>i=w.1.size) w1).setCell (p:=⟨w.1.size,0,none⟩) (.inl rfl) _)
  have hbV:V.1[w.1.size]?=some (.cells #[.slice q1 x.length c1] 25 (0,0)):=by rw[hV,ai hI1.par.b0 0 _];rfl
  have HIV:=tQ (hI1.setT haV hbV)
  have HPV:Hid (Prs V (w.1.size+1+1+1) S rest):=⟨(haV.block _ hp1.lt (by omega)).trans hp1.lies,hp1.suf,hp1.le,hp1.small,hp1.low,hp1.hv.aside haV (fun k hk=>by have:=HLow.out;omega)⟩
  have HVe:=tQ hV
  have HA1:=tQ ha1
  have hWs:W.1.size=w.1.size+1+1+1+1:=by rw[HW.out];simp
  have HWs:=tQ hWs
  have hPN:¬w.1.size+1+1+1=w.1.size:=by omega
  have hPN2:¬w.1.size=w.1.size+1+1+1:=by omega
  have hEN:¬w.1.size+1=w.1.size:=by omega
  have hEN2:¬w.1.size=w.1.size+1:=by omega
  have hPE:¬w.1.size+1+1+1=w.1.size+1:=by omega
  have hPE2:¬w.1.size+1=w.1.size+1+1+1:=by omega
  have hAN:¬w.1.size+1+1=w.1.size:=by omega
  have hAN2:¬w.1.size=w.1.size+1+1:=by omega
  have hAE:¬w.1.size+1+1=w.1.size+1:=by omega
  have hAE2:¬w.1.size+1=w.1.size+1+1:=by omega
  clear hh hp1 ha1 HC HW hV hI1
  by_cases hr0:rest=[]
  case neg=>
   have HRe:Hid (r=.error (5,S.size-rest.length)):=HRk.out.trans (if_neg hr0)
   have hrl:0<rest.length:=List.length_pos_iff.2 hr0
   have g1:(((S.size-rest.length:Nat):Int)==(S.size:Int))=false:=bh (by omega)
   have HNd:=tQ (aN HPV.out 5 rest.length rfl)
   obtain⟨at1,hat1⟩:∃at1:Int,at1=((S.size-rest.length:Nat):Int):=⟨_,rfl⟩
   rw[<-hat1] at p1c g1
   clear hr0 hrl HRk hat1 haV hbV hWs hv1 hle
   go_wp2_with fail
   rw[<-HVe.out]
   refine HNd.out.mono ?_
   rintro e w2 ⟨rfl,hw2⟩
   rw[hw2]
   clear hw2 w2 HNd
   go_wp2
   exact HDoor.out 5 (S.size-rest.length) V _ _ _ HRe.out HIV.out _ _ rfl rfl rfl rfl
  subst hr0
  have g1:(((S.size-([]:Tx.Bs).length:Nat):Int)==(S.size:Int))=true:=by simp
  have HR2:Hid (r=if Sch.err x=0 then .ok x else .error (Sch.err x,0)):=HRk.out.trans (if_pos rfl)
  obtain⟨at1,hat1⟩:∃at1:Int,at1=((S.size-([]:Tx.Bs).length:Nat):Int):=⟨_,rfl⟩
  rw[<-hat1] at p1c g1
  obtain⟨V2,hV2⟩:∃V2,V2=V.setCell ⟨w.1.size+1+1+1,1,none⟩ (.int .i64 0):=⟨_,rfl⟩
  have ha2:Aside (fun i=>i=w.1.size+1+1+1) V V2:=by rw[hV2];exact aw _ _ _ _
  have hI2:=HIV.out.step ha2 (fun k hk=>by omega)
  have hP2:Prs V2 (w.1.size+1+1+1) S S.data.toList:=HPrs.out V2 (by rw[hV2,ai HPV.out.lies 1];rfl) hI2.below
  have hX2:dr W x (.agg #[.slice q1 x.length c1]) V2:=dr.keep hv1 tX ((haV.mono (G:=fun i=>i<W.1.size) (fun i _ he=>by omega)).trans ha2 (fun i _ he=>by omega))
  have HCk:=tQ (dr.check hX2 (jP HRf.out HY.out.symm (by rw[HSl.out];omega)))
  obtain⟨er,her⟩:∃er,er=Sch.err x:=⟨_,rfl⟩
  rw[<-her] at HR2 HCk
  have HA2:Hid (Aside (fun i=>i<W.1.size) w1 V2):=(haV.mono (G:=fun i=>i<W.1.size) (fun i _ he=>by omega)).trans ha2 (fun i _ he=>by omega)
  have HP2:=tQ hP2
  have HI2:=tQ hI2
  have HV2:Hid (V2=(w1.setCell ⟨w.1.size,0,none⟩ (.slice q1 x.length c1)).setCell ⟨w.1.size+1+1+1,1,none⟩ (.int .i64 0)):=by show _=_;rw[hV2,HVe.out]
  clear hat1 hV2 ha2 hP2 hX2 her haV hbV hI2 HRk hle
  go_wp2_with fail
  refine(aV _ 5 _).mono ?_
  rintro e w2 ⟨rfl,hw2⟩
  rw[hw2]
  clear hw2 w2
  go_wp2_with fail
  rw[<-HV2.out]
  refine HCk.out.mono ?_
  rintro e w3 ⟨rfl,hb3⟩
  have hI3:=HI2.out.step (ag hb3 (fun _=>False)) (fun _ h=>h.elim)
  have HI3:=tQ hI3
  have HP3:=tQ (HP2.out.on hb3)
  have HA3:=tQ (HA2.out.trans (ag hb3 (fun _=>False)) (fun _ _ h=>h.elim))
  have e3:w3.cell? ⟨w.1.size+1,0,none⟩=some (.int .i64 0):=ab hI3.par.b1 0
  have ef3:=ac hI3.par.b1 0
  have a3:w3.cell? ⟨w.1.size+1+1,0,none⟩=some (.int .i64 0):=ab hI3.par.b2 0
  have af3:w3.frozen? ⟨w.1.size+1+1,0,none⟩=false:=ac hI3.par.b2 0
  have s0:w3.cell? ⟨w.1.size,0,none⟩=some (.slice q1 x.length c1):=ab hI3.par.b0 0
  have sf0:=ac hI3.par.b0 0
  clear hb3 hI3 HCk HV2 HVe HIV HPV m0 mf0 p1c p1t
  by_cases h0:er=0
  ·subst h0
   have HRo:Hid (r=.ok x):=HR2.out.trans (if_pos rfl)
   have g2:((0:Int)==0)=true:=rfl
   have HFin:Hid (∀w5,w5=(((w3.setCell ⟨w.1.size+1,0,none⟩ (.int .i64 0)).setCell ⟨w.1.size,0,none⟩ (.slice q1 x.length c1)).setCell ⟨w.1.size+1,0,none⟩ (.int .i64 0)).setCell ⟨w.1.size+1+1,0,none⟩ (.int .i64 0)->bc w w5 25 #[.slice q1 x.length c1] 0 0∧dr w x (.agg #[.slice q1 x.length c1]) w5):=fun w5 hw5=>by
    have hs3:=HI3.out.size
    have hE:=HI3.out.setE 0
    have hE0:=aw w3 (w.1.size+1) 0 (.int .i64 0)
    obtain⟨X,hX⟩:∃X,X=w3.setCell ⟨w.1.size+1,0,none⟩ (.int .i64 0):=⟨_,rfl⟩
    rw[<-hX] at hE hE0 hw5
    obtain⟨X2,hX2⟩:∃X2,X2=(X.setCell ⟨w.1.size,0,none⟩ (.slice q1 x.length c1)):=⟨_,rfl⟩
    have haX:Aside (fun i=>i=w.1.size) X X2:=by rw[hX2];exact((Aside.refl (fun i=>i=w.1.size) X).setCell (p:=⟨w.1.size,0,none⟩) (.inl rfl) _)
    have hbX:X2.1[w.1.size]?=some (.cells #[.slice q1 x.length c1] 25 (0,0)):=by rw[hX2,ai hE.par.b0 0 _];rfl
    have hT:=((hE.setT haX hbX).setE 0).setA 0
    rw[hX2,<-hw5] at hT
    refine⟨hT,dr.keep HV1.out (by have:=HWs.out;omega) ?_⟩
    have hA:=((((HA3.out.trans hE0 (fun i _ he=>by have:=HWs.out;omega)).trans haX (fun i _ he=>by have:=HWs.out;omega)).trans (aw X2 (w.1.size+1) 0 (.int .i64 0)) (fun i _ he=>by have:=HWs.out;omega)).trans (aw _ (w.1.size+1+1) 0 (.int .i64 0)) (fun i _ he=>by have:=HWs.out;omega))
    rw[hX2,<-hw5] at hA
    exact hA
   clear HR2
   go_wp2_with fail
   refine(aV _ 0 _).mono ?_
   rintro e w4 ⟨rfl,hw4⟩
   rw[hw4]
   clear hw4 w4
   go_wp2
   refine leaves_cons (f:=47) (args:=#[.pointer (some ⟨w.1.size,0,none⟩),.pointer (some ⟨w.1.size+1,0,none⟩),.pointer (some ⟨w.1.size+1+1,0,none⟩)]) (by simp) (by simp[go_sem]) ?_
   refine(lZ ⟨w.1.size,0,none⟩ ⟨w.1.size+1,0,none⟩ ⟨w.1.size+1+1,0,none⟩ _).mono ?_
   rintro e u' w'' ⟨rfl,rfl,rfl⟩
   obtain⟨f1,f2⟩:=HFin.out _ rfl
   refine⟨_,aO rfl _ _ w.1.size (w.1.size+1) (w.1.size+1+1) _ #[.slice q1 x.length c1] _ _ 0 0 rfl f1.par.b0 Tryz.underlying25 rfl (by kernel_rfl) rfl (ab f1.par.b1 0) Tryz.underlying26 rfl (ab f1.par.b2 0) Tryz.underlying3,?_⟩
   rw[HRo.out]
   exact⟨_,rfl,f2,f1.below⟩
  ·have HRe:Hid (r=.error (er,0)):=HR2.out.trans (if_neg h0)
   have g2:((er:Int)==0)=false:=bh (by omega)
   have hI4:=HI3.out.setE er
   have HI4:=tQ hI4
   have hA4:=aw w3 (w.1.size+1) 0 (.int .i64 (er:Int))
   have HNd:Hid (Calls Tryz.prog 48 #[.pointer (some ⟨w.1.size+1+1+1,0,none⟩),.bool false,.int .i64 (er:Nat)] (w3.setCell ⟨w.1.size+1,0,none⟩ (.int .i64 (er:Int))) fun e w'=>e=.panicked (dN er (S.size-S.data.toList.length))∧w'=w3.setCell ⟨w.1.size+1,0,none⟩ (.int .i64 (er:Int))) :=
    aN (l:=S.data.toList) (HPrs.out _ ((hA4.block _ HP3.out.lt hPE).trans (by have:=HP3.out.lies;rw[HSl.out,Nat.sub_self] at this;exact this)) hI4.below) er S.data.toList.length rfl
   rw[HSl.out,Nat.sub_self] at HNd
   clear HR2 h0 hI4 hA4
   go_wp2_with fail
   refine HNd.out.mono ?_
   rintro e w4 ⟨rfl,hw4⟩
   rw[hw4]
   clear hw4 w4 HNd
   go_wp2
   exact HDoor.out er 0 _ _ _ _ HRe.out HI4.out _ _ rfl rfl rfl rfl
theorem fe{rf:Tx.Bs->Option Nat}(hRf:bP rf)(S:ByteArray)(hS:S.size<=1099511627776)(w:World)(hv:Hv w):Calls Tryz.prog 7 #[.string S] w (fX w #[.slice none 0 0] (aA S (Tx.pseq (Tx.pcol rf) (S.data.toList.length+1) S.data.toList) (Sch.err)) (dr w)):=by
 obtain⟨W0,hW0⟩:∃W0,W0=w.alloc (.cells #[.slice none 0 0] 25):=⟨_,rfl⟩
 have HB0:Hid (Below w.1.size w W0):=by rw[hW0];exact tY
 have HN0:Hid (W0.1[w.1.size]?=some (.cells #[.slice none 0 0] 25 (0,0))):=by rw[hW0];exact aj w _
 have HW0:=tQ hW0
 have HC:=tQ (kB hRf S hS W0 (hv.on HB0.out hv.size))
 obtain⟨r,hr⟩:∃r,r=aA S (Tx.pseq (Tx.pcol rf) (S.data.toList.length+1) S.data.toList) (Sch.err):=⟨_,rfl⟩
 rw[<-hr] at HC ⊢
 clear hr hW0 hv hS
 go_enter Tryz.func7,Tryz.ntmps7
 go_wp2_with fail
 rw[<-HW0.out]
 refine HC.out.mono ?_
 intro e w1 hh
 cases r with
 |error er=>
  obtain⟨ek,ea⟩:=er
  obtain⟨he,hb1⟩:=hh
  subst he
  have HN1:Hid (w1.1[w.1.size]?=some (.cells #[.slice none 0 0] 25 (0,0))):=ay HN0.out hb1 (ae HN0.out)
  have m0:w1.cell? ⟨w.1.size,0,none⟩=some (.slice none 0 0):=ab HN1.out 0
  have mf0:=ac HN1.out 0
  obtain⟨X,hX⟩:∃X,X=(w1.setCell ⟨w.1.size,0,none⟩ (.slice none 0 0)):=⟨_,rfl⟩
  have HX:Hid (X.1[w.1.size]?=some (.cells #[.slice none 0 0] 25 (0,0))∧Below w.1.size w X):=by
   have haX:Aside (fun i=>i=w.1.size) w1 X:=by rw[hX];exact((Aside.refl (fun i=>i=w.1.size) w1).setCell (p:=⟨w.1.size,0,none⟩) (.inl rfl) _)
   have hb:=HB0.out.trans (hb1.mono HB0.out.size)
   exact⟨by rw[hX,ai HN1.out 0 _];rfl,hb.trans (haX.below hb.size (fun k hk he=>by omega))⟩
  have HXe:=tQ hX
  clear hb1 HC hX
  go_wp2
  rw[<-HXe.out]
  refine bodyPost_ret (au rfl _ _ w.1.size _ _ _ _ rfl HX.out.1 Tryz.underlying25 rfl (by kernel_rfl)) rfl ?_
  exact⟨rfl,HX.out.2⟩
 |ok x=>
  obtain⟨u,he,hv1,hb1⟩:=hh
  obtain⟨q1,c1,hu1,-⟩:=hv1.open
  injection hu1 with hu1
  subst hu1
  subst he
  have HN1:Hid (w1.1[w.1.size]?=some (.cells #[.slice none 0 0] 25 (0,0))):=ay HN0.out hb1 (ae HN0.out)
  have m0:w1.cell? ⟨w.1.size,0,none⟩=some (.slice none 0 0):=ab HN1.out 0
  have mf0:=ac HN1.out 0
  obtain⟨X,hX⟩:∃X,X=(w1.setCell ⟨w.1.size,0,none⟩ (.slice q1 x.length c1)):=⟨_,rfl⟩
  have HX:Hid (X.1[w.1.size]?=some (.cells #[.slice q1 x.length c1] 25 (0,0))∧Below w.1.size w X∧dr w x (.agg #[.slice q1 x.length c1]) X):=by
   have haX:Aside (fun i=>i=w.1.size) w1 X:=by rw[hX];exact((Aside.refl (fun i=>i=w.1.size) w1).setCell (p:=⟨w.1.size,0,none⟩) (.inl rfl) _)
   have hb:=HB0.out.trans (hb1.mono HB0.out.size)
   have hl:=ae HN0.out
   exact⟨by rw[hX,ai HN1.out 0 _];rfl,hb.trans (haX.below hb.size (fun k hk he=>by omega)),dr.keep hv1 (by omega) (haX.mono (fun i _ he=>by omega))⟩
  have HXe:=tQ hX
  clear hb1 HC hX hv1
  go_wp2
  rw[<-HXe.out]
  refine bodyPost_ret (au rfl _ _ w.1.size _ _ _ _ rfl HX.out.1 Tryz.underlying25 rfl (by kernel_rfl)) rfl ?_
  exact⟨_,rfl,HX.out.2.2,HX.out.2.1⟩
theorem lR{rf:Tx.Bs->Option Nat}(hRf:bP rf)(S:ByteArray)(hS:S.size<=1099511627776)(w:World)(hv:Hv w):Calls Tryz.prog 32 #[.string S,.func (.func 33) #[] #[],.func (.func 34) #[] #[]] w (fX w #[.int .i64 0,.int .i64 0,.float .f64 0,.string ⟨#[]⟩,.slice none 0 0] (aA S (Tx.pval rf 4 S.data.toList) (chk 1)) (bl w)):=by
 have hmf:∀(fn:Fn) (first cap:AV) (w:World),(Instr.makeFunc fn first cap).run Tryz.prog w=.ok (.func fn first cap) w:=fun _ _ _ _=>rfl
 obtain⟨W,hW⟩:∃W,W=(((w.alloc (.cells #[.int .i64 0,.int .i64 0,.float .f64 0,.string ⟨#[]⟩,.slice none 0 0] 36)).alloc (.cells #[.int .i64 0] 26)).alloc (.cells #[.int .i64 0] 3)).alloc (.cells #[.string S,.int .i64 0] 90):=⟨_,rfl⟩
 have hI:bc w W 36 #[.int .i64 0,.int .i64 0,.float .f64 0,.string ⟨#[]⟩,.slice none 0 0] 0 0:=by
  have hb:Below w.1.size w W:=by rw[hW];exact((tY.alloc (by simp) _).alloc (by simp <;> omega) _).alloc (by simp <;> omega) _
  refine⟨⟨?_,?_,?_⟩,by rw[hW];simp,hb⟩
  ·rw[hW,ao _ _ (by simp <;> omega),ao _ _ (by simp <;> omega),ao _ _ (by simp)];exact aj w _
  ·rw[hW,ao _ _ (by simp <;> omega),ao _ _ (by simp)]
   have:=aj (w.alloc (.cells #[.int .i64 0,.int .i64 0,.float .f64 0,.string ⟨#[]⟩,.slice none 0 0] 36)) (.cells #[.int .i64 0] 26)
   simpa using this
  ·rw[hW,ao _ _ (by simp)]
   have:=aj ((w.alloc (.cells #[.int .i64 0,.int .i64 0,.float .f64 0,.string ⟨#[]⟩,.slice none 0 0] 36)).alloc (.cells #[.int .i64 0] 26)) (.cells #[.int .i64 0] 3)
   have e:((w.alloc (.cells #[.int .i64 0,.int .i64 0,.float .f64 0,.string ⟨#[]⟩,.slice none 0 0] 36)).alloc (.cells #[.int .i64 0] 26)).1.size=w.1.size+2:=by simp
   rw[e] at this
   exact this
 have hSl:S.data.toList.length=S.size:=by show S.data.toList.length=S.data.size;simp
 have hlow:=hv.size
 have hPl:W.1[w.1.size+1+1+1]?=some (.cells (psC S 0) 90 (0,0)):=by
  rw[hW]
  have:=aj (((w.alloc (.cells #[.int .i64 0,.int .i64 0,.float .f64 0,.string ⟨#[]⟩,.slice none 0 0] 36)).alloc (.cells #[.int .i64 0] 26)).alloc (.cells #[.int .i64 0] 3)) (.cells #[.string S,.int .i64 0] 90)
  have e:(((w.alloc (.cells #[.int .i64 0,.int .i64 0,.float .f64 0,.string ⟨#[]⟩,.slice none 0 0] 36)).alloc (.cells #[.int .i64 0] 26)).alloc (.cells #[.int .i64 0] 3)).1.size=w.1.size+1+1+1:=by simp
  rw[e] at this
  exact this
 have HPrs:Hid (∀W',W'.1[w.1.size+1+1+1]?=some (.cells (psC S 0) 90 (0,0))->Below w.1.size w W'->Prs W' (w.1.size+1+1+1) S S.data.toList):=fun W' h1 h2=>⟨by rw[hSl,Nat.sub_self];exact h1,by rw[hSl,Nat.sub_self];rfl,by omega,by omega,by omega,hv.on h2 hlow⟩
 have hP:Prs W (w.1.size+1+1+1) S S.data.toList:=HPrs.out W hPl hI.below
 have HC:=tQ (kb hRf hP hS)
 obtain⟨Y,hY⟩:∃Y,Y=Tx.pval rf 4 S.data.toList:=⟨_,rfl⟩
 rw[<-hY] at HC ⊢
 obtain⟨r,hr⟩:∃r,r=aA S Y (chk 1):=⟨_,rfl⟩
 rw[<-hr]
 have HR:=tQ hr
 have HY:=tQ hY
 have HW:=tQ hW
 have HI:=tQ hI
 have HSl:=tQ hSl
 have HLow:=tQ hlow
 have HRf:=tQ hRf
 have hsm:S.size<=140737488351232:=by omega
 -- a panic that goes through the door
 have HDoor:Hid (∀(k a:Nat) (W2:World) (x0 x1 x2 x3 x4:Value) (e0 a0:Int),r=.error (k,a)->bc w W2 36 #[x0,x1,x2,x3,x4] e0 a0->∀(tmps:AV) (ds:List Deferred),tmps.getD 6 undef=.pointer (some ⟨w.1.size,0,none⟩)->tmps.getD 7 undef=.pointer (some ⟨w.1.size+1,0,none⟩)->tmps.getD 8 undef=.pointer (some ⟨w.1.size+2,0,none⟩)->ds=[{ target:=.fn (.func 63) #[.pointer (some ⟨w.1.size,0,none⟩),.pointer (some ⟨w.1.size+1,0,none⟩),.pointer (some ⟨w.1.size+2,0,none⟩)],args:=#[] }]->bodyPostD Tryz.prog Tryz.f32 (fX w #[.int .i64 0,.int .i64 0,.float .f64 0,.string ⟨#[]⟩,.slice none 0 0] r (bl w)) (Exit.panic (dN k a)) { tmps:=tmps,defers:=ds } W2):=by
  intro k a W2 x0 x1 x2 x3 x4 e0 a0 he hI tmps ds h6 h7 h8 hds
  subst hds
  refine leaves_cons (f:=63) (args:=#[.pointer (some ⟨w.1.size,0,none⟩),.pointer (some ⟨w.1.size+1,0,none⟩),.pointer (some ⟨w.1.size+2,0,none⟩)]) (by simp) (by simp[go_sem]) ?_
  refine(me w.1.size x0 x1 x2 x3 x4 e0 a0 k a W2 hI.par).mono ?_
  rintro e u' w'' ⟨rfl,rfl,hB,hA⟩
  have hs:=hI.size
  refine⟨_,aO rfl tmps _ w.1.size (w.1.size+1) (w.1.size+2) _ #[.int .i64 0,.int .i64 0,.float .f64 0,.string ⟨#[]⟩,.slice none 0 0] _ _ (k:Int) (a:Int) h6 hB.b0 Tryz.underlying36 rfl (by kernel_rfl) h7 (ab hB.b1 0) Tryz.underlying26 h8 (ab hB.b2 0) Tryz.underlying3,?_⟩
  rw[he]
  exact⟨rfl,hI.below.trans (hA.below (by omega) (fun k hk hc=>by omega))⟩
 clear hr hY hW hI hSl hPl hP hv hS hlow
 cases Y with
 |error er=>
  obtain⟨ek,en⟩:=er
  have HRe:Hid (r=.error (ek,S.size-en)):=HR.out
  clear HR
  go_enter_defers Tryz.func32,Tryz.ntmps32
  go_wp2_with fail
  rw[<-HW.out]
  refine HC.out.mono ?_
  intro e w1 hh
  obtain⟨he,ha⟩:=hh.bad
  subst he
  have HI1:=tQ (HI.out.step ha (fun k hk=>by omega))
  clear hh ha HC
  go_wp2
  exact HDoor.out ek (S.size-en) w1 _ _ _ _ _ _ _ HRe.out HI1.out _ _ rfl rfl rfl rfl
 |ok z=>
  obtain⟨x,rest⟩:=z
  have HRk:Hid (r=if rest=[] then (if chk 1 x=0 then .ok x else .error (chk 1 x,0)) else .error (5,S.size-rest.length)):=HR.out
  clear HR
  go_enter_defers Tryz.func32,Tryz.ntmps32
  go_wp2_with fail
  rw[<-HW.out]
  refine HC.out.mono ?_
  intro e w1 hh
  obtain⟨v1,he,hv1,hp1,ha1⟩:=hh.good
  obtain⟨u1,hu1,hown1⟩:=hv1.open
  obtain⟨k1,i1,b1,t1,p1,n1,c1,hsh⟩:=hown1.shape
  subst hsh
  unfold cells5 at hu1
  subst hu1
  subst he
  have HV1:=tQ hv1
  have hI1:=HI.out.step ha1 (fun k hk=>by omega)
  have hs1:=hI1.size
  have m0:w1.cell? ⟨w.1.size,0,none⟩=some (.int .i64 0):=ab hI1.par.b0 0
  have mf0:=ac hI1.par.b0 0
  have m1:w1.cell? ⟨w.1.size,1,none⟩=some (.int .i64 0):=ab hI1.par.b0 1
  have mf1:=ac hI1.par.b0 1
  have m2:w1.cell? ⟨w.1.size,2,none⟩=some (.float .f64 0):=ab hI1.par.b0 2
  have mf2:=ac hI1.par.b0 2
  have m3:w1.cell? ⟨w.1.size,3,none⟩=some (.string ⟨#[]⟩):=ab hI1.par.b0 3
  have mf3:=ac hI1.par.b0 3
  have m4:w1.cell? ⟨w.1.size,4,none⟩=some (.slice none 0 0):=ab hI1.par.b0 4
  have mf4:=ac hI1.par.b0 4
  have p1c:w1.cell? ⟨w.1.size+1+1+1,1,none⟩=some (.int .i64 ((S.size-rest.length:Nat):Int)):=hp1.cell 1
  have p1t:=hp1.thawed 1
  have hle:=hp1.le
  obtain⟨V,hV⟩:∃V,V=(((((w1.setCell ⟨w.1.size,0,none⟩ (.int .i64 k1)).setCell ⟨w.1.size,1,none⟩ (.int .i64 i1)).setCell ⟨w.1.size,2,none⟩ (.float .f64 b1)).setCell ⟨w.1.size,3,none⟩ (.string t1)).setCell ⟨w.1.size,4,none⟩ (.slice p1 n1 c1)):=⟨_,rfl⟩
  have haV:Aside (fun i=>i=w.1.size) w1 V:=by rw[hV];exact((((((Aside.refl (fun i=>i=w.1.size) w1).setCell (p:=⟨w.1.size,0,none⟩) (.inl rfl) _).setCell (p:=⟨w.1.size,1,none⟩) (.inl rfl) _).setCell (p:=⟨w.1.size,2,none⟩) (.inl rfl) _).setCell (p:=⟨w.1.size,3,none⟩) (.inl rfl) _).setCell (p:=⟨w.1.size,4,none⟩) (.inl rfl) _)
  have hbV:V.1[w.1.size]?=some (.cells #[.int .i64 k1,.int .i64 i1,.float .f64 b1,.string t1,.slice p1 n1 c1] 36 (0,0)):=by rw[hV,ai (ai (ai (ai (ai hI1.par.b0 0 _) 1 _) 2 _) 3 _) 4 _];rfl
  have HIV:=tQ (hI1.setT haV hbV)
  have HPV:Hid (Prs V (w.1.size+1+1+1) S rest):=⟨(haV.block _ hp1.lt (by omega)).trans hp1.lies,hp1.suf,hp1.le,hp1.small,hp1.low,hp1.hv.aside haV (fun k hk=>by have:=HLow.out;omega)⟩
  have HVe:=tQ hV
  have HA1:=tQ ha1
  have hWs:W.1.size=w.1.size+1+1+1+1:=by rw[HW.out];simp
  have HWs:=tQ hWs
  have hPN:¬w.1.size+1+1+1=w.1.size:=by omega
  have hPN2:¬w.1.size=w.1.size+1+1+1:=by omega
  have hEN:¬w.1.size+1=w.1.size:=by omega
  have hEN2:¬w.1.size=w.1.size+1:=by omega
  have hPE:¬w.1.size+1+1+1=w.1.size+1:=by omega
  have hPE2:¬w.1.size+1=w.1.size+1+1+1:=by omega
  have hAN:¬w.1.size+1+1=w.1.size:=by omega
  have hAN2:¬w.1.size=w.1.size+1+1:=by omega
  have hAE:¬w.1.size+1+1=w.1.size+1:=by omega
  have hAE2:¬w.1.size+1=w.1.size+1+1:=by omega
  clear hh hp1 ha1 HC HW hV hI1
  by_cases hr0:rest=[]
  case neg=>
   have HRe:Hid (r=.error (5,S.size-rest.length)):=HRk.out.trans (if_neg hr0)
   have hrl:0<rest.length:=List.length_pos_iff.2 hr0
   have g1:(((S.size-rest.length:Nat):Int)==(S.size:Int))=false:=bh (by omega)
   have HNd:=tQ (aN HPV.out 5 rest.length rfl)
   obtain⟨at1,hat1⟩:∃at1:Int,at1=((S.size-rest.length:Nat):Int):=⟨_,rfl⟩
   rw[<-hat1] at p1c g1
   clear hr0 hrl HRk hat1 haV hbV hWs hv1 hle
   go_wp2_with fail
   rw[<-HVe.out]
   refine HNd.out.mono ?_
   rintro e w2 ⟨rfl,hw2⟩
   rw[hw2]
   clear hw2 w2 HNd
   go_wp2
   exact HDoor.out 5 (S.size-rest.length) V _ _ _ _ _ _ _ HRe.out HIV.out _ _ rfl rfl rfl rfl
  subst hr0
  have g1:(((S.size-([]:Tx.Bs).length:Nat):Int)==(S.size:Int))=true:=by simp
  have HR2:Hid (r=if chk 1 x=0 then .ok x else .error (chk 1 x,0)):=HRk.out.trans (if_pos rfl)
  obtain⟨at1,hat1⟩:∃at1:Int,at1=((S.size-([]:Tx.Bs).length:Nat):Int):=⟨_,rfl⟩
  rw[<-hat1] at p1c g1
  obtain⟨V2,hV2⟩:∃V2,V2=V.setCell ⟨w.1.size+1+1+1,1,none⟩ (.int .i64 0):=⟨_,rfl⟩
  have ha2:Aside (fun i=>i=w.1.size+1+1+1) V V2:=by rw[hV2];exact aw _ _ _ _
  have hI2:=HIV.out.step ha2 (fun k hk=>by omega)
  have hP2:Prs V2 (w.1.size+1+1+1) S S.data.toList:=HPrs.out V2 (by rw[hV2,ai HPV.out.lies 1];rfl) hI2.below
  have hX2:bl W x (.agg #[.int .i64 k1,.int .i64 i1,.float .f64 b1,.string t1,.slice p1 n1 c1]) V2:=bl.keep hv1 tX ((haV.mono (G:=fun i=>i<W.1.size) (fun i _ he=>by omega)).trans ha2 (fun i _ he=>by omega))
  have HCk:=tQ (bl.check hX2)
  obtain⟨er,her⟩:∃er,er=chk 1 x:=⟨_,rfl⟩
  rw[<-her] at HR2 HCk
  have HA2:Hid (Aside (fun i=>i<W.1.size) w1 V2):=(haV.mono (G:=fun i=>i<W.1.size) (fun i _ he=>by omega)).trans ha2 (fun i _ he=>by omega)
  have HP2:=tQ hP2
  have HI2:=tQ hI2
  have HV2:Hid (V2=(((((w1.setCell ⟨w.1.size,0,none⟩ (.int .i64 k1)).setCell ⟨w.1.size,1,none⟩ (.int .i64 i1)).setCell ⟨w.1.size,2,none⟩ (.float .f64 b1)).setCell ⟨w.1.size,3,none⟩ (.string t1)).setCell ⟨w.1.size,4,none⟩ (.slice p1 n1 c1)).setCell ⟨w.1.size+1+1+1,1,none⟩ (.int .i64 0)):=by show _=_;rw[hV2,HVe.out]
  clear hat1 hV2 ha2 hP2 hX2 her haV hbV hI2 HRk hle
  go_wp2_with fail
  refine(aV _ 5 _).mono ?_
  rintro e w2 ⟨rfl,hw2⟩
  rw[hw2]
  clear hw2 w2
  go_wp2_with fail
  rw[<-HV2.out]
  refine HCk.out.mono ?_
  rintro e w3 ⟨rfl,hb3⟩
  have hI3:=HI2.out.step (ag hb3 (fun _=>False)) (fun _ h=>h.elim)
  have HI3:=tQ hI3
  have HP3:=tQ (HP2.out.on hb3)
  have HA3:=tQ (HA2.out.trans (ag hb3 (fun _=>False)) (fun _ _ h=>h.elim))
  have e3:w3.cell? ⟨w.1.size+1,0,none⟩=some (.int .i64 0):=ab hI3.par.b1 0
  have ef3:=ac hI3.par.b1 0
  have a3:w3.cell? ⟨w.1.size+1+1,0,none⟩=some (.int .i64 0):=ab hI3.par.b2 0
  have af3:w3.frozen? ⟨w.1.size+1+1,0,none⟩=false:=ac hI3.par.b2 0
  have s0:w3.cell? ⟨w.1.size,0,none⟩=some (.int .i64 k1):=ab hI3.par.b0 0
  have sf0:=ac hI3.par.b0 0
  have s1:w3.cell? ⟨w.1.size,1,none⟩=some (.int .i64 i1):=ab hI3.par.b0 1
  have sf1:=ac hI3.par.b0 1
  have s2:w3.cell? ⟨w.1.size,2,none⟩=some (.float .f64 b1):=ab hI3.par.b0 2
  have sf2:=ac hI3.par.b0 2
  have s3:w3.cell? ⟨w.1.size,3,none⟩=some (.string t1):=ab hI3.par.b0 3
  have sf3:=ac hI3.par.b0 3
  have s4:w3.cell? ⟨w.1.size,4,none⟩=some (.slice p1 n1 c1):=ab hI3.par.b0 4
  have sf4:=ac hI3.par.b0 4
  clear hb3 hI3 HCk HV2 HVe HIV HPV m0 mf0 m1 mf1 m2 mf2 m3 mf3 m4 mf4 p1c p1t
  by_cases h0:er=0
  ·subst h0
   have HRo:Hid (r=.ok x):=HR2.out.trans (if_pos rfl)
   have g2:((0:Int)==0)=true:=rfl
   have HFin:Hid (∀w5,w5=(((((((w3.setCell ⟨w.1.size+1,0,none⟩ (.int .i64 0)).setCell ⟨w.1.size,0,none⟩ (.int .i64 k1)).setCell ⟨w.1.size,1,none⟩ (.int .i64 i1)).setCell ⟨w.1.size,2,none⟩ (.float .f64 b1)).setCell ⟨w.1.size,3,none⟩ (.string t1)).setCell ⟨w.1.size,4,none⟩ (.slice p1 n1 c1)).setCell ⟨w.1.size+1,0,none⟩ (.int .i64 0)).setCell ⟨w.1.size+1+1,0,none⟩ (.int .i64 0)->bc w w5 36 #[.int .i64 k1,.int .i64 i1,.float .f64 b1,.string t1,.slice p1 n1 c1] 0 0∧bl w x (.agg #[.int .i64 k1,.int .i64 i1,.float .f64 b1,.string t1,.slice p1 n1 c1]) w5):=fun w5 hw5=>by
    have hs3:=HI3.out.size
    have hE:=HI3.out.setE 0
    have hE0:=aw w3 (w.1.size+1) 0 (.int .i64 0)
    obtain⟨X,hX⟩:∃X,X=w3.setCell ⟨w.1.size+1,0,none⟩ (.int .i64 0):=⟨_,rfl⟩
    rw[<-hX] at hE hE0 hw5
    obtain⟨X2,hX2⟩:∃X2,X2=(((((X.setCell ⟨w.1.size,0,none⟩ (.int .i64 k1)).setCell ⟨w.1.size,1,none⟩ (.int .i64 i1)).setCell ⟨w.1.size,2,none⟩ (.float .f64 b1)).setCell ⟨w.1.size,3,none⟩ (.string t1)).setCell ⟨w.1.size,4,none⟩ (.slice p1 n1 c1)):=⟨_,rfl⟩
    have haX:Aside (fun i=>i=w.1.size) X X2:=by rw[hX2];exact((((((Aside.refl (fun i=>i=w.1.size) X).setCell (p:=⟨w.1.size,0,none⟩) (.inl rfl) _).setCell (p:=⟨w.1.size,1,none⟩) (.inl rfl) _).setCell (p:=⟨w.1.size,2,none⟩) (.inl rfl) _).setCell (p:=⟨w.1.size,3,none⟩) (.inl rfl) _).setCell (p:=⟨w.1.size,4,none⟩) (.inl rfl) _)
    have hbX:X2.1[w.1.size]?=some (.cells #[.int .i64 k1,.int .i64 i1,.float .f64 b1,.string t1,.slice p1 n1 c1] 36 (0,0)):=by rw[hX2,ai (ai (ai (ai (ai hE.par.b0 0 _) 1 _) 2 _) 3 _) 4 _];rfl
    have hT:=((hE.setT haX hbX).setE 0).setA 0
    rw[hX2,<-hw5] at hT
    refine⟨hT,bl.keep HV1.out (by have:=HWs.out;omega) ?_⟩
    have hA:=((((HA3.out.trans hE0 (fun i _ he=>by have:=HWs.out;omega)).trans haX (fun i _ he=>by have:=HWs.out;omega)).trans (aw X2 (w.1.size+1) 0 (.int .i64 0)) (fun i _ he=>by have:=HWs.out;omega)).trans (aw _ (w.1.size+1+1) 0 (.int .i64 0)) (fun i _ he=>by have:=HWs.out;omega))
    rw[hX2,<-hw5] at hA
    exact hA
   clear HR2
   go_wp2_with fail
   refine(aV _ 0 _).mono ?_
   rintro e w4 ⟨rfl,hw4⟩
   rw[hw4]
   clear hw4 w4
   go_wp2
   refine leaves_cons (f:=63) (args:=#[.pointer (some ⟨w.1.size,0,none⟩),.pointer (some ⟨w.1.size+1,0,none⟩),.pointer (some ⟨w.1.size+1+1,0,none⟩)]) (by simp) (by simp[go_sem]) ?_
   refine(nS ⟨w.1.size,0,none⟩ ⟨w.1.size+1,0,none⟩ ⟨w.1.size+1+1,0,none⟩ _).mono ?_
   rintro e u' w'' ⟨rfl,rfl,rfl⟩
   obtain⟨f1,f2⟩:=HFin.out _ rfl
   refine⟨_,aO rfl _ _ w.1.size (w.1.size+1) (w.1.size+1+1) _ #[.int .i64 k1,.int .i64 i1,.float .f64 b1,.string t1,.slice p1 n1 c1] _ _ 0 0 rfl f1.par.b0 Tryz.underlying36 rfl (by kernel_rfl) rfl (ab f1.par.b1 0) Tryz.underlying26 rfl (ab f1.par.b2 0) Tryz.underlying3,?_⟩
   rw[HRo.out]
   exact⟨_,rfl,f2,f1.below⟩
  ·have HRe:Hid (r=.error (er,0)):=HR2.out.trans (if_neg h0)
   have g2:((er:Int)==0)=false:=bh (by omega)
   have hI4:=HI3.out.setE er
   have HI4:=tQ hI4
   have hA4:=aw w3 (w.1.size+1) 0 (.int .i64 (er:Int))
   have HNd:Hid (Calls Tryz.prog 48 #[.pointer (some ⟨w.1.size+1+1+1,0,none⟩),.bool false,.int .i64 (er:Nat)] (w3.setCell ⟨w.1.size+1,0,none⟩ (.int .i64 (er:Int))) fun e w'=>e=.panicked (dN er (S.size-S.data.toList.length))∧w'=w3.setCell ⟨w.1.size+1,0,none⟩ (.int .i64 (er:Int))) :=
    aN (l:=S.data.toList) (HPrs.out _ ((hA4.block _ HP3.out.lt hPE).trans (by have:=HP3.out.lies;rw[HSl.out,Nat.sub_self] at this;exact this)) hI4.below) er S.data.toList.length rfl
   rw[HSl.out,Nat.sub_self] at HNd
   clear HR2 h0 hI4 hA4
   go_wp2_with fail
   refine HNd.out.mono ?_
   rintro e w4 ⟨rfl,hw4⟩
   rw[hw4]
   clear hw4 w4 HNd
   go_wp2
   exact HDoor.out er 0 _ _ _ _ _ _ _ _ HRe.out HI4.out _ _ rfl rfl rfl rfl
theorem lj{rf:Tx.Bs->Option Nat}(hRf:bP rf)(S:ByteArray)(hS:S.size<=1099511627776)(w:World)(hv:Hv w):Calls Tryz.prog 10 #[.string S] w (fX w #[.int .i64 0,.int .i64 0,.float .f64 0,.string ⟨#[]⟩,.slice none 0 0] (aA S (Tx.pval rf 4 S.data.toList) (chk 1)) (bl w)):=by
 obtain⟨W0,hW0⟩:∃W0,W0=w.alloc (.cells #[.int .i64 0,.int .i64 0,.float .f64 0,.string ⟨#[]⟩,.slice none 0 0] 36):=⟨_,rfl⟩
 have HB0:Hid (Below w.1.size w W0):=by rw[hW0];exact tY
 have HN0:Hid (W0.1[w.1.size]?=some (.cells #[.int .i64 0,.int .i64 0,.float .f64 0,.string ⟨#[]⟩,.slice none 0 0] 36 (0,0))):=by rw[hW0];exact aj w _
 have HW0:=tQ hW0
 have HC:=tQ (lR hRf S hS W0 (hv.on HB0.out hv.size))
 obtain⟨r,hr⟩:∃r,r=aA S (Tx.pval rf 4 S.data.toList) (chk 1):=⟨_,rfl⟩
 rw[<-hr] at HC ⊢
 clear hr hW0 hv hS
 go_enter Tryz.func10,Tryz.ntmps10
 go_wp2_with fail
 rw[<-HW0.out]
 refine HC.out.mono ?_
 intro e w1 hh
 cases r with
 |error er=>
  obtain⟨ek,ea⟩:=er
  obtain⟨he,hb1⟩:=hh
  subst he
  have HN1:Hid (w1.1[w.1.size]?=some (.cells #[.int .i64 0,.int .i64 0,.float .f64 0,.string ⟨#[]⟩,.slice none 0 0] 36 (0,0))):=ay HN0.out hb1 (ae HN0.out)
  have m0:w1.cell? ⟨w.1.size,0,none⟩=some (.int .i64 0):=ab HN1.out 0
  have mf0:=ac HN1.out 0
  have m1:w1.cell? ⟨w.1.size,1,none⟩=some (.int .i64 0):=ab HN1.out 1
  have mf1:=ac HN1.out 1
  have m2:w1.cell? ⟨w.1.size,2,none⟩=some (.float .f64 0):=ab HN1.out 2
  have mf2:=ac HN1.out 2
  have m3:w1.cell? ⟨w.1.size,3,none⟩=some (.string ⟨#[]⟩):=ab HN1.out 3
  have mf3:=ac HN1.out 3
  have m4:w1.cell? ⟨w.1.size,4,none⟩=some (.slice none 0 0):=ab HN1.out 4
  have mf4:=ac HN1.out 4
  obtain⟨X,hX⟩:∃X,X=(((((w1.setCell ⟨w.1.size,0,none⟩ (.int .i64 0)).setCell ⟨w.1.size,1,none⟩ (.int .i64 0)).setCell ⟨w.1.size,2,none⟩ (.float .f64 0)).setCell ⟨w.1.size,3,none⟩ (.string ⟨#[]⟩)).setCell ⟨w.1.size,4,none⟩ (.slice none 0 0)):=⟨_,rfl⟩
  have HX:Hid (X.1[w.1.size]?=some (.cells #[.int .i64 0,.int .i64 0,.float .f64 0,.string ⟨#[]⟩,.slice none 0 0] 36 (0,0))∧Below w.1.size w X):=by
   have haX:Aside (fun i=>i=w.1.size) w1 X:=by rw[hX];exact((((((Aside.refl (fun i=>i=w.1.size) w1).setCell (p:=⟨w.1.size,0,none⟩) (.inl rfl) _).setCell (p:=⟨w.1.size,1,none⟩) (.inl rfl) _).setCell (p:=⟨w.1.size,2,none⟩) (.inl rfl) _).setCell (p:=⟨w.1.size,3,none⟩) (.inl rfl) _).setCell (p:=⟨w.1.size,4,none⟩) (.inl rfl) _)
   have hb:=HB0.out.trans (hb1.mono HB0.out.size)
   exact⟨by rw[hX,ai (ai (ai (ai (ai HN1.out 0 _) 1 _) 2 _) 3 _) 4 _];rfl,hb.trans (haX.below hb.size (fun k hk he=>by omega))⟩
  have HXe:=tQ hX
  clear hb1 HC hX
  go_wp2
  rw[<-HXe.out]
  refine bodyPost_ret (au rfl _ _ w.1.size _ _ _ _ rfl HX.out.1 Tryz.underlying36 rfl (by kernel_rfl)) rfl ?_
  exact⟨rfl,HX.out.2⟩
 |ok x=>
  obtain⟨u,he,hv1,hb1⟩:=hh
  obtain⟨u1,hu1,hown1⟩:=hv1.open
  obtain⟨k1,i1,b1,t1,p1,n1,c1,hsh⟩:=hown1.shape
  injection hu1 with hu1
  subst hu1
  subst hsh
  unfold cells5 at hv1 he
  clear hown1
  subst he
  have HN1:Hid (w1.1[w.1.size]?=some (.cells #[.int .i64 0,.int .i64 0,.float .f64 0,.string ⟨#[]⟩,.slice none 0 0] 36 (0,0))):=ay HN0.out hb1 (ae HN0.out)
  have m0:w1.cell? ⟨w.1.size,0,none⟩=some (.int .i64 0):=ab HN1.out 0
  have mf0:=ac HN1.out 0
  have m1:w1.cell? ⟨w.1.size,1,none⟩=some (.int .i64 0):=ab HN1.out 1
  have mf1:=ac HN1.out 1
  have m2:w1.cell? ⟨w.1.size,2,none⟩=some (.float .f64 0):=ab HN1.out 2
  have mf2:=ac HN1.out 2
  have m3:w1.cell? ⟨w.1.size,3,none⟩=some (.string ⟨#[]⟩):=ab HN1.out 3
  have mf3:=ac HN1.out 3
  have m4:w1.cell? ⟨w.1.size,4,none⟩=some (.slice none 0 0):=ab HN1.out 4
  have mf4:=ac HN1.out 4
  obtain⟨X,hX⟩:∃X,X=(((((w1.setCell ⟨w.1.size,0,none⟩ (.int .i64 k1)).setCell ⟨w.1.size,1,none⟩ (.int .i64 i1)).setCell ⟨w.1.size,2,none⟩ (.float .f64 b1)).setCell ⟨w.1.size,3,none⟩ (.string t1)).setCell ⟨w.1.size,4,none⟩ (.slice p1 n1 c1)):=⟨_,rfl⟩
  have HX:Hid (X.1[w.1.size]?=some (.cells #[.int .i64 k1,.int .i64 i1,.float .f64 b1,.string t1,.slice p1 n1 c1] 36 (0,0))∧Below w.1.size w X∧bl w x (.agg #[.int .i64 k1,.int .i64 i1,.float .f64 b1,.string t1,.slice p1 n1 c1]) X):=by
   have haX:Aside (fun i=>i=w.1.size) w1 X:=by rw[hX];exact((((((Aside.refl (fun i=>i=w.1.size) w1).setCell (p:=⟨w.1.size,0,none⟩) (.inl rfl) _).setCell (p:=⟨w.1.size,1,none⟩) (.inl rfl) _).setCell (p:=⟨w.1.size,2,none⟩) (.inl rfl) _).setCell (p:=⟨w.1.size,3,none⟩) (.inl rfl) _).setCell (p:=⟨w.1.size,4,none⟩) (.inl rfl) _)
   have hb:=HB0.out.trans (hb1.mono HB0.out.size)
   have hl:=ae HN0.out
   exact⟨by rw[hX,ai (ai (ai (ai (ai HN1.out 0 _) 1 _) 2 _) 3 _) 4 _];rfl,hb.trans (haX.below hb.size (fun k hk he=>by omega)),bl.keep hv1 (by omega) (haX.mono (fun i _ he=>by omega))⟩
  have HXe:=tQ hX
  clear hb1 HC hX hv1
  go_wp2
  rw[<-HXe.out]
  refine bodyPost_ret (au rfl _ _ w.1.size _ _ _ _ rfl HX.out.1 Tryz.underlying36 rfl (by kernel_rfl)) rfl ?_
  exact⟨_,rfl,HX.out.2.2,HX.out.2.1⟩
theorem pi{rf:Tx.Bs->Option Nat}(hRf:bP rf)(S:ByteArray)(hS:S.size<=1099511627776)(w:World)(hv:Hv w):Calls Tryz.prog 38 #[.string S,.func (.func 39) #[] #[],.func (.func 40) #[] #[]] w (fX w #[.slice none 0 0] (aA S (eA rf S.data.toList) (aE)) (cY w)):=by
 have hmf:∀(fn:Fn) (first cap:AV) (w:World),(Instr.makeFunc fn first cap).run Tryz.prog w=.ok (.func fn first cap) w:=fun _ _ _ _=>rfl
 obtain⟨W,hW⟩:∃W,W=(((w.alloc (.cells #[.slice none 0 0] 44)).alloc (.cells #[.int .i64 0] 26)).alloc (.cells #[.int .i64 0] 3)).alloc (.cells #[.string S,.int .i64 0] 90):=⟨_,rfl⟩
 have hI:bc w W 44 #[.slice none 0 0] 0 0:=by
  have hb:Below w.1.size w W:=by rw[hW];exact((tY.alloc (by simp) _).alloc (by simp <;> omega) _).alloc (by simp <;> omega) _
  refine⟨⟨?_,?_,?_⟩,by rw[hW];simp,hb⟩
  ·rw[hW,ao _ _ (by simp <;> omega),ao _ _ (by simp <;> omega),ao _ _ (by simp)];exact aj w _
  ·rw[hW,ao _ _ (by simp <;> omega),ao _ _ (by simp)]
   have:=aj (w.alloc (.cells #[.slice none 0 0] 44)) (.cells #[.int .i64 0] 26)
   simpa using this
  ·rw[hW,ao _ _ (by simp)]
   have:=aj ((w.alloc (.cells #[.slice none 0 0] 44)).alloc (.cells #[.int .i64 0] 26)) (.cells #[.int .i64 0] 3)
   have e:((w.alloc (.cells #[.slice none 0 0] 44)).alloc (.cells #[.int .i64 0] 26)).1.size=w.1.size+2:=by simp
   rw[e] at this
   exact this
 have hSl:S.data.toList.length=S.size:=by show S.data.toList.length=S.data.size;simp
 have hlow:=hv.size
 have hPl:W.1[w.1.size+1+1+1]?=some (.cells (psC S 0) 90 (0,0)):=by
  rw[hW]
  have:=aj (((w.alloc (.cells #[.slice none 0 0] 44)).alloc (.cells #[.int .i64 0] 26)).alloc (.cells #[.int .i64 0] 3)) (.cells #[.string S,.int .i64 0] 90)
  have e:(((w.alloc (.cells #[.slice none 0 0] 44)).alloc (.cells #[.int .i64 0] 26)).alloc (.cells #[.int .i64 0] 3)).1.size=w.1.size+1+1+1:=by simp
  rw[e] at this
  exact this
 have HPrs:Hid (∀W',W'.1[w.1.size+1+1+1]?=some (.cells (psC S 0) 90 (0,0))->Below w.1.size w W'->Prs W' (w.1.size+1+1+1) S S.data.toList):=fun W' h1 h2=>⟨by rw[hSl,Nat.sub_self];exact h1,by rw[hSl,Nat.sub_self];rfl,by omega,by omega,by omega,hv.on h2 hlow⟩
 have hP:Prs W (w.1.size+1+1+1) S S.data.toList:=HPrs.out W hPl hI.below
 have HC:=tQ (mO hRf hP rfl hS)
 obtain⟨Y,hY⟩:∃Y,Y=eA rf S.data.toList:=⟨_,rfl⟩
 rw[<-hY] at HC ⊢
 obtain⟨r,hr⟩:∃r,r=aA S Y (aE):=⟨_,rfl⟩
 rw[<-hr]
 have HR:=tQ hr
 have HY:=tQ hY
 have HW:=tQ hW
 have HI:=tQ hI
 have HSl:=tQ hSl
 have HLow:=tQ hlow
 have HRf:=tQ hRf
 have hsm:S.size<=140737488351232:=by omega
 -- a panic that goes through the door
 have HDoor:Hid (∀(k a:Nat) (W2:World) (x0:Value) (e0 a0:Int),r=.error (k,a)->bc w W2 44 #[x0] e0 a0->∀(tmps:AV) (ds:List Deferred),tmps.getD 6 undef=.pointer (some ⟨w.1.size,0,none⟩)->tmps.getD 7 undef=.pointer (some ⟨w.1.size+1,0,none⟩)->tmps.getD 8 undef=.pointer (some ⟨w.1.size+2,0,none⟩)->ds=[{ target:=.fn (.func 68) #[.pointer (some ⟨w.1.size,0,none⟩),.pointer (some ⟨w.1.size+1,0,none⟩),.pointer (some ⟨w.1.size+2,0,none⟩)],args:=#[] }]->bodyPostD Tryz.prog Tryz.f38 (fX w #[.slice none 0 0] r (cY w)) (Exit.panic (dN k a)) { tmps:=tmps,defers:=ds } W2):=by
  intro k a W2 x0 e0 a0 he hI tmps ds h6 h7 h8 hds
  subst hds
  refine leaves_cons (f:=68) (args:=#[.pointer (some ⟨w.1.size,0,none⟩),.pointer (some ⟨w.1.size+1,0,none⟩),.pointer (some ⟨w.1.size+2,0,none⟩)]) (by simp) (by simp[go_sem]) ?_
  refine(p8 w.1.size x0 e0 a0 k a W2 hI.par).mono ?_
  rintro e u' w'' ⟨rfl,rfl,hB,hA⟩
  have hs:=hI.size
  refine⟨_,aO rfl tmps _ w.1.size (w.1.size+1) (w.1.size+2) _ #[.slice none 0 0] _ _ (k:Int) (a:Int) h6 hB.b0 Tryz.underlying44 rfl (by kernel_rfl) h7 (ab hB.b1 0) Tryz.underlying26 h8 (ab hB.b2 0) Tryz.underlying3,?_⟩
  rw[he]
  exact⟨rfl,hI.below.trans (hA.below (by omega) (fun k hk hc=>by omega))⟩
 clear hr hY hW hI hSl hPl hP hv hS hlow
 cases Y with
 |error er=>
  obtain⟨ek,en⟩:=er
  have HRe:Hid (r=.error (ek,S.size-en)):=HR.out
  clear HR
  go_enter_defers Tryz.func38,Tryz.ntmps38
  go_wp2_with fail
  rw[<-HW.out]
  refine HC.out.mono ?_
  intro e w1 hh
  obtain⟨he,ha⟩:=hh.bad
  subst he
  have HI1:=tQ (HI.out.step ha (fun k hk=>by omega))
  clear hh ha HC
  go_wp2
  exact HDoor.out ek (S.size-en) w1 _ _ _ HRe.out HI1.out _ _ rfl rfl rfl rfl
 |ok z=>
  obtain⟨x,rest⟩:=z
  have HRk:Hid (r=if rest=[] then (if aE x=0 then .ok x else .error (aE x,0)) else .error (5,S.size-rest.length)):=HR.out
  clear HR
  go_enter_defers Tryz.func38,Tryz.ntmps38
  go_wp2_with fail
  rw[<-HW.out]
  refine HC.out.mono ?_
  intro e w1 hh
  obtain⟨v1,he,hv1,hp1,ha1⟩:=hh.good
  obtain⟨q1,c1,hu1,-⟩:=hv1.open
  subst hu1
  subst he
  have HV1:=tQ hv1
  have hI1:=HI.out.step ha1 (fun k hk=>by omega)
  have hs1:=hI1.size
  have m0:w1.cell? ⟨w.1.size,0,none⟩=some (.slice none 0 0):=ab hI1.par.b0 0
  have mf0:=ac hI1.par.b0 0
  have p1c:w1.cell? ⟨w.1.size+1+1+1,1,none⟩=some (.int .i64 ((S.size-rest.length:Nat):Int)):=hp1.cell 1
  have p1t:=hp1.thawed 1
  have hle:=hp1.le
  obtain⟨V,hV⟩:∃V,V=(w1.setCell ⟨w.1.size,0,none⟩ (.slice q1 x.length c1)):=⟨_,rfl⟩
  have haV:Aside (fun i=>i=w.1.size) w1 V:=by rw[hV];exact((Aside.refl (fun i=>i=w.1.size) w1).setCell (p:=⟨w.1.size,0,none⟩) (.inl rfl) _)
  have hbV:V.1[w.1.size]?=some (.cells #[.slice q1 x.length c1] 44 (0,0)):=by rw[hV,ai hI1.par.b0 0 _];rfl
  have HIV:=tQ (hI1.setT haV hbV)
  have HPV:Hid (Prs V (w.1.size+1+1+1) S rest):=⟨(haV.block _ hp1.lt (by omega)).trans hp1.lies,hp1.suf,hp1.le,hp1.small,hp1.low,hp1.hv.aside haV (fun k hk=>by have:=HLow.out;omega)⟩
  have HVe:=tQ hV
  have HA1:=tQ ha1
  have hWs:W.1.size=w.1.size+1+1+1+1:=by rw[HW.out];simp
  have HWs:=tQ hWs
  have hPN:¬w.1.size+1+1+1=w.1.size:=by omega
  have hPN2:¬w.1.size=w.1.size+1+1+1:=by omega
  have hEN:¬w.1.size+1=w.1.size:=by omega
  have hEN2:¬w.1.size=w.1.size+1:=by omega
  have hPE:¬w.1.size+1+1+1=w.1.size+1:=by omega
  have hPE2:¬w.1.size+1=w.1.size+1+1+1:=by omega
  have hAN:¬w.1.size+1+1=w.1.size:=by omega
  have hAN2:¬w.1.size=w.1.size+1+1:=by omega
  have hAE:¬w.1.size+1+1=w.1.size+1:=by omega
  have hAE2:¬w.1.size+1=w.1.size+1+1:=by omega
  clear hh hp1 ha1 HC HW hV hI1
  by_cases hr0:rest=[]
  case neg=>
   have HRe:Hid (r=.error (5,S.size-rest.length)):=HRk.out.trans (if_neg hr0)
   have hrl:0<rest.length:=List.length_pos_iff.2 hr0
   have g1:(((S.size-rest.length:Nat):Int)==(S.size:Int))=false:=bh (by omega)
   have HNd:=tQ (aN HPV.out 5 rest.length rfl)
   obtain⟨at1,hat1⟩:∃at1:Int,at1=((S.size-rest.length:Nat):Int):=⟨_,rfl⟩
   rw[<-hat1] at p1c g1
   clear hr0 hrl HRk hat1 haV hbV hWs hv1 hle
   go_wp2_with fail
   rw[<-HVe.out]
   refine HNd.out.mono ?_
   rintro e w2 ⟨rfl,hw2⟩
   rw[hw2]
   clear hw2 w2 HNd
   go_wp2
   exact HDoor.out 5 (S.size-rest.length) V _ _ _ HRe.out HIV.out _ _ rfl rfl rfl rfl
  subst hr0
  have g1:(((S.size-([]:Tx.Bs).length:Nat):Int)==(S.size:Int))=true:=by simp
  have HR2:Hid (r=if aE x=0 then .ok x else .error (aE x,0)):=HRk.out.trans (if_pos rfl)
  obtain⟨at1,hat1⟩:∃at1:Int,at1=((S.size-([]:Tx.Bs).length:Nat):Int):=⟨_,rfl⟩
  rw[<-hat1] at p1c g1
  obtain⟨V2,hV2⟩:∃V2,V2=V.setCell ⟨w.1.size+1+1+1,1,none⟩ (.int .i64 0):=⟨_,rfl⟩
  have ha2:Aside (fun i=>i=w.1.size+1+1+1) V V2:=by rw[hV2];exact aw _ _ _ _
  have hI2:=HIV.out.step ha2 (fun k hk=>by omega)
  have hP2:Prs V2 (w.1.size+1+1+1) S S.data.toList:=HPrs.out V2 (by rw[hV2,ai HPV.out.lies 1];rfl) hI2.below
  have hX2:cY W x (.agg #[.slice q1 x.length c1]) V2:=cY.keep hv1 tX ((haV.mono (G:=fun i=>i<W.1.size) (fun i _ he=>by omega)).trans ha2 (fun i _ he=>by omega))
  have HCk:=tQ (cY.check hX2)
  obtain⟨er,her⟩:∃er,er=aE x:=⟨_,rfl⟩
  rw[<-her] at HR2 HCk
  have HA2:Hid (Aside (fun i=>i<W.1.size) w1 V2):=(haV.mono (G:=fun i=>i<W.1.size) (fun i _ he=>by omega)).trans ha2 (fun i _ he=>by omega)
  have HP2:=tQ hP2
  have HI2:=tQ hI2
  have HV2:Hid (V2=(w1.setCell ⟨w.1.size,0,none⟩ (.slice q1 x.length c1)).setCell ⟨w.1.size+1+1+1,1,none⟩ (.int .i64 0)):=by show _=_;rw[hV2,HVe.out]
  clear hat1 hV2 ha2 hP2 hX2 her haV hbV hI2 HRk hle
  go_wp2_with fail
  refine(aV _ 5 _).mono ?_
  rintro e w2 ⟨rfl,hw2⟩
  rw[hw2]
  clear hw2 w2
  go_wp2_with fail
  rw[<-HV2.out]
  refine HCk.out.mono ?_
  rintro e w3 ⟨rfl,hb3⟩
  have hI3:=HI2.out.step (ag hb3 (fun _=>False)) (fun _ h=>h.elim)
  have HI3:=tQ hI3
  have HP3:=tQ (HP2.out.on hb3)
  have HA3:=tQ (HA2.out.trans (ag hb3 (fun _=>False)) (fun _ _ h=>h.elim))
  have e3:w3.cell? ⟨w.1.size+1,0,none⟩=some (.int .i64 0):=ab hI3.par.b1 0
  have ef3:=ac hI3.par.b1 0
  have a3:w3.cell? ⟨w.1.size+1+1,0,none⟩=some (.int .i64 0):=ab hI3.par.b2 0
  have af3:w3.frozen? ⟨w.1.size+1+1,0,none⟩=false:=ac hI3.par.b2 0
  have s0:w3.cell? ⟨w.1.size,0,none⟩=some (.slice q1 x.length c1):=ab hI3.par.b0 0
  have sf0:=ac hI3.par.b0 0
  clear hb3 hI3 HCk HV2 HVe HIV HPV m0 mf0 p1c p1t
  by_cases h0:er=0
  ·subst h0
   have HRo:Hid (r=.ok x):=HR2.out.trans (if_pos rfl)
   have g2:((0:Int)==0)=true:=rfl
   have HFin:Hid (∀w5,w5=(((w3.setCell ⟨w.1.size+1,0,none⟩ (.int .i64 0)).setCell ⟨w.1.size,0,none⟩ (.slice q1 x.length c1)).setCell ⟨w.1.size+1,0,none⟩ (.int .i64 0)).setCell ⟨w.1.size+1+1,0,none⟩ (.int .i64 0)->bc w w5 44 #[.slice q1 x.length c1] 0 0∧cY w x (.agg #[.slice q1 x.length c1]) w5):=fun w5 hw5=>by
    have hs3:=HI3.out.size
    have hE:=HI3.out.setE 0
    have hE0:=aw w3 (w.1.size+1) 0 (.int .i64 0)
    obtain⟨X,hX⟩:∃X,X=w3.setCell ⟨w.1.size+1,0,none⟩ (.int .i64 0):=⟨_,rfl⟩
    rw[<-hX] at hE hE0 hw5
    obtain⟨X2,hX2⟩:∃X2,X2=(X.setCell ⟨w.1.size,0,none⟩ (.slice q1 x.length c1)):=⟨_,rfl⟩
    have haX:Aside (fun i=>i=w.1.size) X X2:=by rw[hX2];exact((Aside.refl (fun i=>i=w.1.size) X).setCell (p:=⟨w.1.size,0,none⟩) (.inl rfl) _)
    have hbX:X2.1[w.1.size]?=some (.cells #[.slice q1 x.length c1] 44 (0,0)):=by rw[hX2,ai hE.par.b0 0 _];rfl
    have hT:=((hE.setT haX hbX).setE 0).setA 0
    rw[hX2,<-hw5] at hT
    refine⟨hT,cY.keep HV1.out (by have:=HWs.out;omega) ?_⟩
    have hA:=((((HA3.out.trans hE0 (fun i _ he=>by have:=HWs.out;omega)).trans haX (fun i _ he=>by have:=HWs.out;omega)).trans (aw X2 (w.1.size+1) 0 (.int .i64 0)) (fun i _ he=>by have:=HWs.out;omega)).trans (aw _ (w.1.size+1+1) 0 (.int .i64 0)) (fun i _ he=>by have:=HWs.out;omega))
    rw[hX2,<-hw5] at hA
    exact hA
   clear HR2
   go_wp2_with fail
   refine(aV _ 0 _).mono ?_
   rintro e w4 ⟨rfl,hw4⟩
   rw[hw4]
   clear hw4 w4
   go_wp2
   refine leaves_cons (f:=68) (args:=#[.pointer (some ⟨w.1.size,0,none⟩),.pointer (some ⟨w.1.size+1,0,none⟩),.pointer (some ⟨w.1.size+1+1,0,none⟩)]) (by simp) (by simp[go_sem]) ?_
   refine(qW ⟨w.1.size,0,none⟩ ⟨w.1.size+1,0,none⟩ ⟨w.1.size+1+1,0,none⟩ _).mono ?_
   rintro e u' w'' ⟨rfl,rfl,rfl⟩
   obtain⟨f1,f2⟩:=HFin.out _ rfl
   refine⟨_,aO rfl _ _ w.1.size (w.1.size+1) (w.1.size+1+1) _ #[.slice q1 x.length c1] _ _ 0 0 rfl f1.par.b0 Tryz.underlying44 rfl (by kernel_rfl) rfl (ab f1.par.b1 0) Tryz.underlying26 rfl (ab f1.par.b2 0) Tryz.underlying3,?_⟩
   rw[HRo.out]
   exact⟨_,rfl,f2,f1.below⟩
  ·have HRe:Hid (r=.error (er,0)):=HR2.out.trans (if_neg h0)
   have g2:((er:Int)==0)=false:=bh (by omega)
   have hI4:=HI3.out.setE er
   have HI4:=tQ hI4
   have hA4:=aw w3 (w.1.size+1) 0 (.int .i64 (er:Int))
   have HNd:Hid (Calls Tryz.prog 48 #[.pointer (some ⟨w.1.size+1+1+1,0,none⟩),.bool false,.int .i64 (er:Nat)] (w3.setCell ⟨w.1.size+1,0,none⟩ (.int .i64 (er:Int))) fun e w'=>e=.panicked (dN er (S.size-S.data.toList.length))∧w'=w3.setCell ⟨w.1.size+1,0,none⟩ (.int .i64 (er:Int))) :=
    aN (l:=S.data.toList) (HPrs.out _ ((hA4.block _ HP3.out.lt hPE).trans (by have:=HP3.out.lies;rw[HSl.out,Nat.sub_self] at this;exact this)) hI4.below) er S.data.toList.length rfl
   rw[HSl.out,Nat.sub_self] at HNd
   clear HR2 h0 hI4 hA4
   go_wp2_with fail
   refine HNd.out.mono ?_
   rintro e w4 ⟨rfl,hw4⟩
   rw[hw4]
   clear hw4 w4 HNd
   go_wp2
   exact HDoor.out er 0 _ _ _ _ HRe.out HI4.out _ _ rfl rfl rfl rfl
theorem oj{rf:Tx.Bs->Option Nat}(hRf:bP rf)(S:ByteArray)(hS:S.size<=1099511627776)(w:World)(hv:Hv w):Calls Tryz.prog 13 #[.string S] w (fX w #[.slice none 0 0] (aA S (eA rf S.data.toList) (aE)) (cY w)):=by
 obtain⟨W0,hW0⟩:∃W0,W0=w.alloc (.cells #[.slice none 0 0] 44):=⟨_,rfl⟩
 have HB0:Hid (Below w.1.size w W0):=by rw[hW0];exact tY
 have HN0:Hid (W0.1[w.1.size]?=some (.cells #[.slice none 0 0] 44 (0,0))):=by rw[hW0];exact aj w _
 have HW0:=tQ hW0
 have HC:=tQ (pi hRf S hS W0 (hv.on HB0.out hv.size))
 obtain⟨r,hr⟩:∃r,r=aA S (eA rf S.data.toList) (aE):=⟨_,rfl⟩
 rw[<-hr] at HC ⊢
 clear hr hW0 hv hS
 go_enter Tryz.func13,Tryz.ntmps13
 go_wp2_with fail
 rw[<-HW0.out]
 refine HC.out.mono ?_
 intro e w1 hh
 cases r with
 |error er=>
  obtain⟨ek,ea⟩:=er
  obtain⟨he,hb1⟩:=hh
  subst he
  have HN1:Hid (w1.1[w.1.size]?=some (.cells #[.slice none 0 0] 44 (0,0))):=ay HN0.out hb1 (ae HN0.out)
  have m0:w1.cell? ⟨w.1.size,0,none⟩=some (.slice none 0 0):=ab HN1.out 0
  have mf0:=ac HN1.out 0
  obtain⟨X,hX⟩:∃X,X=(w1.setCell ⟨w.1.size,0,none⟩ (.slice none 0 0)):=⟨_,rfl⟩
  have HX:Hid (X.1[w.1.size]?=some (.cells #[.slice none 0 0] 44 (0,0))∧Below w.1.size w X):=by
   have haX:Aside (fun i=>i=w.1.size) w1 X:=by rw[hX];exact((Aside.refl (fun i=>i=w.1.size) w1).setCell (p:=⟨w.1.size,0,none⟩) (.inl rfl) _)
   have hb:=HB0.out.trans (hb1.mono HB0.out.size)
   exact⟨by rw[hX,ai HN1.out 0 _];rfl,hb.trans (haX.below hb.size (fun k hk he=>by omega))⟩
  have HXe:=tQ hX
  clear hb1 HC hX
  go_wp2
  rw[<-HXe.out]
  refine bodyPost_ret (au rfl _ _ w.1.size _ _ _ _ rfl HX.out.1 Tryz.underlying44 rfl (by kernel_rfl)) rfl ?_
  exact⟨rfl,HX.out.2⟩
 |ok x=>
  obtain⟨u,he,hv1,hb1⟩:=hh
  obtain⟨q1,c1,hu1,-⟩:=hv1.open
  injection hu1 with hu1
  subst hu1
  subst he
  have HN1:Hid (w1.1[w.1.size]?=some (.cells #[.slice none 0 0] 44 (0,0))):=ay HN0.out hb1 (ae HN0.out)
  have m0:w1.cell? ⟨w.1.size,0,none⟩=some (.slice none 0 0):=ab HN1.out 0
  have mf0:=ac HN1.out 0
  obtain⟨X,hX⟩:∃X,X=(w1.setCell ⟨w.1.size,0,none⟩ (.slice q1 x.length c1)):=⟨_,rfl⟩
  have HX:Hid (X.1[w.1.size]?=some (.cells #[.slice q1 x.length c1] 44 (0,0))∧Below w.1.size w X∧cY w x (.agg #[.slice q1 x.length c1]) X):=by
   have haX:Aside (fun i=>i=w.1.size) w1 X:=by rw[hX];exact((Aside.refl (fun i=>i=w.1.size) w1).setCell (p:=⟨w.1.size,0,none⟩) (.inl rfl) _)
   have hb:=HB0.out.trans (hb1.mono HB0.out.size)
   have hl:=ae HN0.out
   exact⟨by rw[hX,ai HN1.out 0 _];rfl,hb.trans (haX.below hb.size (fun k hk he=>by omega)),cY.keep hv1 (by omega) (haX.mono (fun i _ he=>by omega))⟩
  have HXe:=tQ hX
  clear hb1 HC hX hv1
  go_wp2
  rw[<-HXe.out]
  refine bodyPost_ret (au rfl _ _ w.1.size _ _ _ _ rfl HX.out.1 Tryz.underlying44 rfl (by kernel_rfl)) rfl ?_
  exact⟨_,rfl,HX.out.2.2,HX.out.2.1⟩
end Go.Proofs.YtllbniljgcgbeaaGreatDoor
