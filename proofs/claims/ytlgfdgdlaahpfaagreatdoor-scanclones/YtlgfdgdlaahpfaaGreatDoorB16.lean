import Derived.Test.YtlgfdgdlaahpfaaGreatDoorB14
set_option maxRecDepth 100000
set_option maxHeartbeats 1000000
namespace Go.Proofs.YtlgfdgdlaahpfaaGreatDoor
section
open Go.RowKit
def dS(k:Nat):List PanicEntry:=[{ v:=.iface 39 (.int .i64 k),recovered:=false }]
def dm(p:OA)(n c:Nat):OA:=if c=n then p else p.map (·.add n)
def iO(p:OA)(c:Nat):OA:=if c=0 then p else p.map (·.add 0)
theorem cW(p:OA)(len c n:Nat)(h:n<=len)(w:World):(Instr.slice 31 (.slice p len c) (some (.int .i64 n)) none none).run Tryz.prog w=.ok (.slice (dm p n c) (len-n) (c-n)) w:=by
 have hs:(sizeOf (Tryz.prog.elem 31)).run Tryz.prog w=.ok 1 w:=by kernel_rfl
 rw[run_slice_l w 31 p len c (by kernel_rfl) .i64 (n:Int) (by omega) (by omega),hs]
 simp[sliced,dm,Result.andThen]
theorem i8(p:OA)(len c n:Nat)(h:n<=c)(w:World):(Instr.slice 31 (.slice p len c) none (some (.int .i64 n)) none).run Tryz.prog w=.ok (.slice (iO p c) n c) w:=by
 have hs:(sizeOf (Tryz.prog.elem 31)).run Tryz.prog w=.ok 1 w:=by kernel_rfl
 rw[run_slice_h w 31 p len c (by kernel_rfl) .i64 (n:Int) (by omega) (by omega),hs]
 simp[sliced,iO,Result.andThen]
theorem add_block(a:Addr)(n:Nat):(a.add n).block=a.block:=by
 unfold Addr.add
 split <;> rfl
theorem eP{p:OA}{n c A:Nat}(h:∀a,p=some a->a.block<A):∀a,dm p n c=some a->a.block<A:=by
 intro a ha
 unfold dm at ha
 split at ha
 ·exact h a ha
 ·cases p with
  |none=>cases ha
  |some b=>
   simp only[Option.map_some,Option.some.injEq] at ha
   subst ha
   rw[add_block]
   exact h b rfl
theorem At.cut{w:World}{p:OA}{l:L8}(h:At w p l)(n c:Nat)(hc:l.length<=c):At w (dm p n c) (l.drop n):=by
 by_cases h0:l.length<=n
 ·exact .inl (List.drop_eq_nil_of_le h0)
 ·obtain⟨b,o,rfl,hb,hcs⟩:=bz h (by omega)
  refine .inr ⟨b,o+n,?_,hb,dO hcs n⟩
  unfold dm
  rw[if_neg (by omega),Option.map_some,Lib.add_plain]
theorem At.head{w:World}{p:OA}{l:L8}(h:At w p l)(n c:Nat):At w (iO p c) (l.take n):=by
 rcases h with rfl | ⟨b,o,rfl,hb,hcs⟩
 ·exact .inl (by simp)
 ·refine .inr ⟨b,o,?_,hb,dN hcs n⟩
  unfold iO
  split
  ·rfl
  ·rw[Option.map_some,Lib.add_plain];rfl
structure Rdr(w:World)(A R:Nat)(l:L8):Prop where
 out:∃p c,w.1[R]?=some (.cells #[.slice p l.length c] 154 (0,0))∧At w p l∧l.length<=c∧(l≠[]->∀a,p=some a->a.block<A)
 small:l.length<=1024
 low:A<=R
theorem Rdr.lt{w:World}{A R:Nat}{l:L8}(h:Rdr w A R l):R<w.1.size:=by
 obtain⟨p,c,h1,_⟩:=h.out
 exact aw h1
theorem At.keep{w w':World}{p:OA}{l:L8}{A:Nat}(h:At w p l)(hp:l≠[]->∀a,p=some a->a.block<A)(hk:∀k,k<A->w'.1[k]?=w.1[k]?)(hs:w.1.size<=w'.1.size):At w' p l:=by
 rcases h with rfl | ⟨b,o,rfl,hb,hcs⟩
 ·exact .inl rfl
 ·refine .inr ⟨b,o,rfl,by omega,fun j hj=>?_⟩
  rw[World.cell?_of_block (w:=w) (hk b (hp (List.ne_nil_of_length_pos (by omega)) _ rfl))]
  exact hcs j hj
theorem Rdr.keep{w w':World}{A R:Nat}{l:L8}(h:Rdr w A R l)(hk:∀k,k<=R->w'.1[k]?=w.1[k]?)(hs:w.1.size<=w'.1.size):Rdr w' A R l:=by
 obtain⟨p,c,h1,h2,h3,h4⟩:=h.out
 have hl:=h.low
 exact⟨⟨p,c,(hk R vX).trans h1,h2.keep h4 (fun k hk'=>hk k (by omega)) hs,h3,h4⟩,h.small,h.low⟩
theorem Rdr.on{w w':World}{A R:Nat}{l:L8}(h:Rdr w A R l)(hb:Below w.1.size w w'):Rdr w' A R l:=h.keep (fun k hk=>hb.block k (by have:=h.lt;omega)) hb.size
theorem Rdr.aside{w w':World}{A R:Nat}{l:L8}{F:Nat->Prop}(h:Rdr w A R l)(ha:Aside F w w')(hF:∀k,F k->R<k):Rdr w' A R l :=
 h.keep (fun k hk=>ha.block k (by have:=h.lt;omega) (fun hc=>by have:=hF k hc;omega)) ha.size
theorem Rdr.cut{w:World}{A R:Nat}{l:L8}{p:OA}{c:Nat}(h:Rdr w A R l)(h1:w.1[R]?=some (.cells #[.slice p l.length c] 154 (0,0)))(h2:At w p l)(h3:l.length<=c)(h4:l≠[]->∀a,p=some a->a.block<A)(n:Nat)(hn:n<=l.length):
  Rdr (w.setCell ⟨R,0,none⟩ (.slice (dm p n c) (l.length-n) (c-n))) A R (l.drop n):=by
 have hl:=h.low
 have h5:l.drop n≠[]->∀a,dm p n c=some a->a.block<A:=fun hne=>eP (h4 (fun he=>hne (by rw[he];simp)))
 refine⟨⟨dm p n c,c-n,?_,?_,by rw[List.length_drop];omega,h5⟩,by rw[List.length_drop];have:=h.small;omega,hl⟩
 ·rw[ap h1 0,List.length_drop];rfl
 ·refine(h2.cut n c h3).keep h5 (fun k hk=>?_) (by simp[World.setCell])
  exact Below.heap_setCell _ _ _ _ (by show k≠R;omega)
theorem af(w:World)(R m:Nat)(u:Value):Aside (fun i=>i=R) w (w.setCell ⟨R,m,none⟩ u):=(Aside.refl (fun i=>i=R) w).setCell (p:=⟨R,m,none⟩) (.inl rfl) u
def RdA{α:Type}(w:World)(A R:Nat)(l:L8)(r:Except Nat (α×Nat))(V:α->Value->World->Prop)(e:Ending)(w':World):Prop:=match r with
 |.error k=>e=.panicked (dS k)∧Aside (fun i=>i=R) w w'
 |.ok (a,j)=>∃v,e=.returned v∧V a v w'∧Rdr w' A R (l.drop j)∧Aside (fun i=>i=R) w w'
def isI(n:Nat)(v:Value)(_:World):Prop:=v=.int .i64 n
def isU(n:Nat)(v:Value)(_:World):Prop:=v=.int .u64 n
def isT(t:ByteArray)(v:Value)(_:World):Prop:=v=.string t
def isB(b:L8)(v:Value)(w:World):Prop:=∃q c,v=.slice q b.length c∧At w q b∧b.length<=c
theorem cD(a:Value)(k:Int)(w:World):Calls Tryz.prog 106 #[a,.bool true,.int .i64 k] w fun e w'=>e=.returned (.tuple #[])∧w'=w:=by
 go_enter Tryz.func106,Tryz.ntmps106
 go_wp2
 go_end0
 exact⟨rfl,rfl⟩
theorem cE(a:Value)(k:Nat)(w:World):Calls Tryz.prog 106 #[a,.bool false,.int .i64 k] w fun e w'=>e=.panicked (dS k)∧w'=w:=by
 go_enter Tryz.func106,Tryz.ntmps106
 go_wp2
 exact⟨rfl,rfl,rfl⟩
end
section
open Go.RowKit
def bQ(n:Nat)(l:L8):Except Nat (L8×Nat):=if l.length<n then .error 30 else .ok (l.take n,n)
def ba(most er:Nat)(l:L8):Except Nat (Nat×Nat):=match Sch.num l with
 |.error e=>.error e
 |.ok (n,k)=>if most<n then .error er else .ok (n,k)
def fY(l:L8):Except Nat (ByteArray×Nat):=match Sch.text 16 70 l with
 |.error e=>.error e
 |.ok (t,k)=>if Sch.name t=false then .error 70 else .ok (t,k)
theorem kn(n:Nat)(l:L8)(A R:Nat)(w:World)(h:Rdr w A R l):Calls Tryz.prog 161 #[.pointer (some ⟨R,0,none⟩),.int .i64 n] w (RdA w A R l (bQ n l) isB):=by
 obtain⟨p,c,h1,h2,h3,h4⟩:=h.out
 have c0:w.cell? ⟨R,0,none⟩=some (.slice p l.length c):=aa h1 0
 have f0:=ac h1 0
 obtain⟨r,hr⟩:∃r,r=bQ n l:=⟨_,rfl⟩
 rw[<-hr]
 by_cases hlt:l.length<n
 ·have g0:¬(n:Int)<=(l.length:Int):=by omega
  have HR:Hid (r=.error 30):=by show _=_;rw[hr,bQ,if_pos hlt]
  clear hr hlt h1 h2 h3 h4 h
  go_enter Tryz.func161,Tryz.ntmps161
  go_wp2_with fail
  refine(cE _ 30 _).mono ?_
  rintro e w1 ⟨rfl,hw1⟩
  rw[hw1]
  clear hw1 w1
  go_wp2
  rw[HR.out]
  exact⟨rfl,rfl,Aside.refl _ _⟩
 ·have g0:(n:Int)<=(l.length:Int):=by omega
  have HR:Hid (r=.ok (l.take n,n)):=by show _=_;rw[hr,bQ,if_neg hlt]
  have s1:=i8 p l.length c n (by omega) w
  have s2:=cW p l.length c n (by omega) w
  have HCut:=vQ (h.cut h1 h2 h3 h4 n (by omega))
  have HHd:Hid (isB (l.take n) (.slice (iO p c) n c) (w.setCell ⟨R,0,none⟩ (.slice (dm p n c) (l.length-n) (c-n)))):=by
   have e1:(l.take n).length=n:=by rw[List.length_take];omega
   refine⟨iO p c,c,by rw[e1],?_,by omega⟩
   have hl:=h.low
   have hp2:l.take n≠[]->∀a,iO p c=some a->a.block<A:=fun hne a ha=>by
    have h4:=h4 (fun he=>hne (by rw[he];simp))
    unfold iO at ha
    split at ha
    ·exact h4 a ha
    ·cases p with
     |none=>cases ha
     |some b=>
      simp only[Option.map_some,Option.some.injEq] at ha
      subst ha
      rw[add_block]
      exact h4 b rfl
   exact(h2.head n c).keep hp2 (fun k hk=>Below.heap_setCell _ _ _ _ (by show k≠R;omega)) (by simp[World.setCell])
  clear hr hlt h1 h2 h3 h4 h
  go_enter Tryz.func161,Tryz.ntmps161
  go_wp2_with fail
  refine(cD _ 30 _).mono ?_
  rintro e w1 ⟨rfl,hw1⟩
  rw[hw1]
  clear hw1 w1
  go_wp2
  go_ret
  rw[HR.out]
  exact⟨_,rfl,HHd.out,HCut.out,af _ _ _ _⟩
theorem RdA.good{α:Type}{w w':World}{A R:Nat}{l:L8}{a:α}{j:Nat}{V:α->Value->World->Prop}{e:Ending}(h:RdA w A R l (.ok (a,j)) V e w'):∃v,e=.returned v∧V a v w'∧Rdr w' A R (l.drop j)∧Aside (fun i=>i=R) w w':=h
theorem RdA.bad{α:Type}{w w':World}{A R:Nat}{l:L8}{k:Nat}{V:α->Value->World->Prop}{e:Ending}(h:RdA w A R l (.error k) V e w'):e=.panicked (dS k)∧Aside (fun i=>i=R) w w':=h
theorem isB.open{b:L8}{v:Value}{w:World}(h:isB b v w):∃q c,v=.slice q b.length c∧At w q b∧b.length<=c:=h
theorem kY{l:L8}{n k:Nat}(h:Sch.num l=.ok (n,k)):gw l 0=.tuple #[.int .u64 n,.int .i64 k,.int .i64 0]:=by
 unfold Sch.num at h
 split at h
 ·next h0=>
  injection h with h
  injection h with h1 h2
  have e:Leb.getAt l 0=Leb.get l:=by unfold Leb.getAt;rw[if_neg (by decide)];rfl
  unfold gw Leb.nextAt
  rw[e,if_pos h0,h0,h1,h2]
  simp
 ·cases h
theorem jm{l:L8}{er:Nat}(h:Sch.num l=.error er):er≠0∧∃m:Nat,gw l 0=.tuple #[.int .u64 m,.int .i64 0,.int .i64 er]:=by
 unfold Sch.num at h
 split at h
 ·cases h
 ·next h0=>
  injection h with h
  have e:Leb.getAt l 0=Leb.get l:=by unfold Leb.getAt;rw[if_neg (by decide)];rfl
  refine⟨by rw[<-h];exact h0,(Leb.get l).n,?_⟩
  unfold gw Leb.nextAt
  rw[e,if_neg h0,h]
theorem ig{l:L8}{n k:Nat}(h:Sch.num l=.ok (n,k)):k<=l.length∧n<18446744073709551616:=by
 obtain⟨h1,r,h2,h3⟩:=Sch.num_ok h
 refine⟨?_,h1⟩
 rw[h3,h2,List.length_append]
 omega
theorem nh(l:L8)(A R:Nat)(w:World)(h:Rdr w A R l):Calls Tryz.prog 160 #[.pointer (some ⟨R,0,none⟩)] w (RdA w A R l (Sch.num l) isU):=by
 obtain⟨p,c,h1,h2,h3,h4⟩:=h.out
 have hsm:=h.small
 have c0:w.cell? ⟨R,0,none⟩=some (.slice p l.length c):=aa h1 0
 have f0:=ac h1 0
 have HG:=vQ (nz p c l 0 (by omega) h3 w h2)
 obtain⟨r,hr⟩:∃r,r=Sch.num l:=⟨_,rfl⟩
 rw[<-hr]
 cases r with
 |error er=>
  obtain⟨he0,m,hgv⟩:=jm hr.symm
  rw[hgv] at HG
  have g0:((er:Int)==0)=false:=aH (by omega)
  clear hr hgv h1 h2 h3 h4 h he0
  go_enter Tryz.func160,Tryz.ntmps160
  go_wp2_with fail
  refine HG.out.mono ?_
  rintro e w1 ⟨rfl,hw1⟩
  rw[hw1]
  clear hw1 w1 HG
  go_wp2_with fail
  refine(cE _ er _).mono ?_
  rintro e w1 ⟨rfl,hw1⟩
  rw[hw1]
  clear hw1 w1
  go_wp2
  exact⟨rfl,rfl,Aside.refl _ _⟩
 |ok nk=>
  obtain⟨n,k⟩:=nk
  rw[kY hr.symm] at HG
  obtain⟨hk,-⟩:=ig hr.symm
  have s2:=cW p l.length c k hk w
  have HCut:=vQ (h.cut h1 h2 h3 h4 k hk)
  clear hr h1 h2 h3 h4 h hk
  go_enter Tryz.func160,Tryz.ntmps160
  go_wp2_with fail
  refine HG.out.mono ?_
  rintro e w1 ⟨rfl,hw1⟩
  rw[hw1]
  clear hw1 w1 HG
  go_wp2_with fail
  refine(cD _ 0 _).mono ?_
  rintro e w1 ⟨rfl,hw1⟩
  rw[hw1]
  clear hw1 w1
  go_wp2
  go_ret
  exact⟨_,rfl,rfl,HCut.out,af _ _ _ _⟩
theorem jM(most er:Nat)(hm:most<=1024)(l:L8)(A R:Nat)(w:World)(h:Rdr w A R l):Calls Tryz.prog 134 #[.pointer (some ⟨R,0,none⟩),.int .u64 most,.int .i64 er] w (RdA w A R l (ba most er l) isI):=by
 have HN:=vQ (nh l A R w h)
 obtain⟨r,hr⟩:∃r,r=ba most er l:=⟨_,rfl⟩
 have HR:Hid (r=match Sch.num l with
  |.error e=>.error e
  |.ok (n,k)=>if most<n then .error er else .ok (n,k)):=hr
 rw[<-hr]
 clear h hr
 obtain⟨m,hm0⟩:∃m,m=Sch.num l:=⟨_,rfl⟩
 rw[<-hm0] at HN HR
 have HM:=vQ hm0
 clear hm0
 cases m with
 |error e0=>
  go_enter Tryz.func134,Tryz.ntmps134
  go_wp2_with fail
  refine HN.out.mono ?_
  intro e w1 hh
  obtain⟨he,ha⟩:=hh.bad
  subst he
  clear hh
  have HA:=vQ ha
  clear ha HN
  go_wp2
  rw[HR.out]
  exact⟨rfl,rfl,HA.out⟩
 |ok nk=>
  obtain⟨n,k⟩:=nk
  have hn64:=(ig HM.out.symm).2
  by_cases hlt:most<n
  ·have HR2:Hid (r=.error er):=by show _=_;rw[HR.out];exact if_pos hlt
   have g0:¬n<=most:=by omega
   clear HR hlt
   go_enter Tryz.func134,Tryz.ntmps134
   go_wp2_with fail
   refine HN.out.mono ?_
   intro e w1 hh
   obtain⟨v,he,hv,-,ha⟩:=hh.good
   clear hh
   replace hv:v=.int .u64 (n:Nat):=hv
   subst hv
   subst he
   have HA:=vQ ha
   clear ha HN
   go_wp2_with fail
   refine(cE _ er _).mono ?_
   rintro e w2 ⟨rfl,hw2⟩
   rw[hw2]
   clear hw2 w2
   go_wp2
   rw[HR2.out]
   exact⟨rfl,rfl,HA.out⟩
  ·have HR2:Hid (r=.ok (n,k)):=by show _=_;rw[HR.out];exact if_neg hlt
   have g0:n<=most:=by omega
   have g1:(n:Int)<=1024:=by omega
   clear HR hlt
   go_enter Tryz.func134,Tryz.ntmps134
   go_wp2_with fail
   refine HN.out.mono ?_
   intro e w1 hh
   obtain⟨v,he,hv,hrd,ha⟩:=hh.good
   clear hh
   replace hv:v=.int .u64 (n:Nat):=hv
   subst hv
   subst he
   have HA:=vQ ha
   have HRd:=vQ hrd
   clear ha HN hrd
   go_wp2_with fail
   refine(cD _ er _).mono ?_
   rintro e w2 ⟨rfl,hw2⟩
   rw[hw2]
   clear hw2 w2
   go_wp2
   go_ret
   rw[HR2.out]
   exact⟨_,rfl,rfl,HRd.out,HA.out⟩
theorem qU(l:L8)(A R:Nat)(w:World)(h:Rdr w A R l):Calls Tryz.prog 163 #[.pointer (some ⟨R,0,none⟩)] w (RdA w A R l (Sch.bit l) isI):=by
 have HT:=vQ (kn 1 l A R w h)
 clear h
 cases l with
 |nil=>
  have e1:bQ 1 []=.error 30:=rfl
  rw[e1] at HT
  go_enter Tryz.func163,Tryz.ntmps163
  go_wp2_with fail
  refine HT.out.mono ?_
  intro e w1 hh
  obtain⟨he,ha⟩:=hh.bad
  subst he
  clear hh
  have HA:=vQ ha
  clear ha HT
  go_wp2
  exact⟨rfl,rfl,HA.out⟩
 |cons b t=>
  have e1:bQ 1 (b::t)=.ok ([b],1):=by
   unfold bQ
   rw[if_neg (by simp)]
   rfl
  rw[e1] at HT
  have hb:=b.toNat_lt
  by_cases hlt:1<b.toNat
  ·have e2:Sch.bit (b::t)=.error 5:=by rw[Sch.bit,if_pos hlt]
   have g0:decide ((b.toNat:Int)<=1)=false:=decide_eq_false (by omega)
   rw[e2]
   clear e1 e2
   go_enter Tryz.func163,Tryz.ntmps163
   go_wp2_with fail
   refine HT.out.mono ?_
   intro e w1 hh
   obtain⟨v,he,hv,-,ha⟩:=hh.good
   obtain⟨q,c,hv,hat,-⟩:=hv.open
   clear hh
   subst hv
   subst he
   obtain⟨bq,oq,rfl,-,hcs⟩:=bz hat (by simp)
   have d0:w1.cell? ⟨bq,oq,none⟩=some (.int .u8 (b.toNat:Int)):=hcs 0 (by simp)
   have HA:=vQ ha
   clear ha HT hat hcs
   go_wp2_with fail
   refine(cE _ 5 _).mono ?_
   rintro e w2 ⟨rfl,hw2⟩
   rw[hw2]
   clear hw2 w2
   go_wp2
   exact⟨rfl,rfl,HA.out⟩
  ·have e2:Sch.bit (b::t)=.ok (b.toNat,1):=by rw[Sch.bit,if_neg hlt]
   have g0:decide ((b.toNat:Int)<=1)=true:=decide_eq_true (by omega)
   rw[e2]
   clear e1 e2
   go_enter Tryz.func163,Tryz.ntmps163
   go_wp2_with fail
   refine HT.out.mono ?_
   intro e w1 hh
   obtain⟨v,he,hv,hrd,ha⟩:=hh.good
   obtain⟨q,c,hv,hat,-⟩:=hv.open
   clear hh
   subst hv
   subst he
   obtain⟨bq,oq,rfl,-,hcs⟩:=bz hat (by simp)
   have d0:w1.cell? ⟨bq,oq,none⟩=some (.int .u8 (b.toNat:Int)):=hcs 0 (by simp)
   have HA:=vQ ha
   have HRd:=vQ hrd
   clear ha HT hat hcs hrd
   go_wp2_with fail
   refine(cD _ 5 _).mono ?_
   rintro e w2 ⟨rfl,hw2⟩
   rw[hw2]
   clear hw2 w2
   go_wp2
   go_ret
   exact⟨_,rfl,rfl,HRd.out,HA.out⟩
def am{α β:Type}(r:Except Nat (α×Nat))(f:α->Nat->Except Nat β):Except Nat β:=match r with
 |.error e=>.error e
 |.ok (a,k)=>f a k
theorem aI{α β:Type}(a:α)(k:Nat)(f:α->Nat->Except Nat β):am (.ok (a,k)) f=f a k:=rfl
theorem gM(most er:Nat)(l:L8):Sch.text most er l=am (ba most er l) fun n k=>am (bQ n (l.drop k)) fun b j=>.ok (textOf b,k+j):=by
 unfold Sch.text ba
 cases Sch.num l with
 |error e=>rfl
 |ok nk=>
  obtain⟨n,k⟩:=nk
  dsimp only
  by_cases h:most<n
  ·rw[if_pos h,if_pos h];rfl
  ·rw[if_neg h,if_neg h,aI]
   unfold bQ
   rw[List.length_drop]
   by_cases h2:l.length-k<n
   ·rw[if_pos h2,if_pos h2];rfl
   ·rw[if_neg h2,if_neg h2]
    rfl
theorem kN(l:L8):fY l=am (ba 16 70 l) fun n k=>am (bQ n (l.drop k)) fun b j=>if Sch.name (textOf b)=false then .error 70 else .ok (textOf b,k+j):=by
 unfold fY
 rw[gM]
 cases ba 16 70 l with
 |error e=>rfl
 |ok nk=>
  obtain⟨n,k⟩:=nk
  rw[aI,aI]
  cases bQ n (l.drop k) with
  |error e=>rfl
  |ok bj=>rfl
theorem sQ(l:L8)(A R:Nat)(w:World)(h:Rdr w A R l):Calls Tryz.prog 172 #[.pointer (some ⟨R,0,none⟩)] w (RdA w A R l (Sch.text 1024 2 l) isT):=by
 have HN:=vQ (jM 1024 2 (by omega) l A R w h)
 obtain⟨r,hr⟩:∃r,r=Sch.text 1024 2 l:=⟨_,rfl⟩
 have HR:=vQ (hr.trans (gM 1024 2 l))
 rw[<-hr]
 obtain⟨m,hm⟩:∃m,m=ba 1024 2 l:=⟨_,rfl⟩
 rw[<-hm] at HN HR
 clear h hr hm
 cases m with
 |error e0=>
  go_enter Tryz.func172,Tryz.ntmps172
  go_wp2_with fail
  refine HN.out.mono ?_
  intro e w1 hh
  obtain⟨he,ha⟩:=hh.bad
  subst he
  clear hh
  have HA:=vQ ha
  clear ha HN
  go_wp2
  rw[HR.out]
  exact⟨rfl,rfl,HA.out⟩
 |ok nk=>
  obtain⟨n,k⟩:=nk
  go_enter Tryz.func172,Tryz.ntmps172
  go_wp2_with fail
  refine HN.out.mono ?_
  intro e w1 hh
  obtain⟨v,he,hv,hrd,ha⟩:=hh.good
  clear hh
  replace hv:v=.int .i64 (n:Nat):=hv
  subst hv
  subst he
  have HA:=vQ ha
  have HT:=vQ (kn n (l.drop k) A R w1 hrd)
  obtain⟨m,hm⟩:∃m,m=bQ n (l.drop k):=⟨_,rfl⟩
  have HR2:Hid (r=am (bQ n (l.drop k)) fun b j=>.ok (textOf b,k+j)):=HR.out
  rw[<-hm] at HT HR2
  clear ha HN hrd hm HR
  cases m with
  |error e0=>
   go_wp2_with fail
   refine HT.out.mono ?_
   intro e w2 hh
   obtain⟨he,ha⟩:=hh.bad
   subst he
   clear hh
   have HA2:=vQ (HA.out.trans ha (fun _ _ h=>h))
   clear ha HT
   go_wp2
   rw[HR2.out]
   exact⟨rfl,rfl,HA2.out⟩
  |ok bj=>
   obtain⟨b,j⟩:=bj
   go_wp2_with fail
   refine HT.out.mono ?_
   intro e w2 hh
   obtain⟨v,he,hv,hrd,ha⟩:=hh.good
   obtain⟨q,c,hv,hat,-⟩:=hv.open
   clear hh
   subst hv
   subst he
   have HA2:=vQ (HA.out.trans ha (fun _ _ h=>h))
   have hcv:=fm hat c
   have HRd:Hid (Rdr w2 A R (l.drop (k+j))):=by
    show Rdr _ _ _ _
    rw[<-List.drop_drop]
    exact hrd
   clear ha HT hat hrd
   go_wp2
   go_ret
   rw[HR2.out]
   exact⟨_,rfl,rfl,HRd.out,HA2.out⟩
theorem tw(l:L8)(A R:Nat)(w:World)(h:Rdr w A R l):Calls Tryz.prog 135 #[.pointer (some ⟨R,0,none⟩)] w (RdA w A R l (fY l) isT):=by
 have HN:=vQ (jM 16 70 (by omega) l A R w h)
 obtain⟨r,hr⟩:∃r,r=fY l:=⟨_,rfl⟩
 have HR:=vQ (hr.trans (kN l))
 rw[<-hr]
 obtain⟨m,hm⟩:∃m,m=ba 16 70 l:=⟨_,rfl⟩
 rw[<-hm] at HN HR
 clear h hr hm
 cases m with
 |error e0=>
  go_enter Tryz.func135,Tryz.ntmps135
  go_wp2_with fail
  refine HN.out.mono ?_
  intro e w1 hh
  obtain⟨he,ha⟩:=hh.bad
  subst he
  clear hh
  have HA:=vQ ha
  clear ha HN
  go_wp2
  rw[HR.out]
  exact⟨rfl,rfl,HA.out⟩
 |ok nk=>
  obtain⟨n,k⟩:=nk
  go_enter Tryz.func135,Tryz.ntmps135
  go_wp2_with fail
  refine HN.out.mono ?_
  intro e w1 hh
  obtain⟨v,he,hv,hrd,ha⟩:=hh.good
  clear hh
  replace hv:v=.int .i64 (n:Nat):=hv
  subst hv
  subst he
  have HA:=vQ ha
  have HT:=vQ (kn n (l.drop k) A R w1 hrd)
  obtain⟨m,hm⟩:∃m,m=bQ n (l.drop k):=⟨_,rfl⟩
  have HR2:Hid (r=am (bQ n (l.drop k)) fun b j=>if Sch.name (textOf b)=false then .error 70 else .ok (textOf b,k+j)):=HR.out
  rw[<-hm] at HT HR2
  clear ha HN hrd hm HR
  cases m with
  |error e0=>
   go_wp2_with fail
   refine HT.out.mono ?_
   intro e w2 hh
   obtain⟨he,ha⟩:=hh.bad
   subst he
   clear hh
   have HA2:=vQ (HA.out.trans ha (fun _ _ h=>h))
   clear ha HT
   go_wp2
   rw[HR2.out]
   exact⟨rfl,rfl,HA2.out⟩
  |ok bj=>
   obtain⟨b,j⟩:=bj
   go_wp2_with fail
   refine HT.out.mono ?_
   intro e w2 hh
   obtain⟨v,he,hv,hrd,ha⟩:=hh.good
   obtain⟨q,c,hv,hat,-⟩:=hv.open
   clear hh
   subst hv
   subst he
   have HA2:=vQ (HA.out.trans ha (fun _ _ h=>h))
   have hcv:=fm hat c
   have HRd:Hid (Rdr w2 A R (l.drop (k+j))):=by
    show Rdr _ _ _ _
    rw[<-List.drop_drop]
    exact hrd
   have HNm:=vQ (sW (textOf b) w2)
   have HR3:Hid (r=if Sch.name (textOf b)=false then .error 70 else .ok (textOf b,k+j)):=HR2.out
   obtain⟨t,ht⟩:∃t,t=textOf b:=⟨_,rfl⟩
   rw[<-ht] at hcv HNm HR3
   obtain⟨rn,hrn⟩:∃b,b=Sch.name t:=⟨_,rfl⟩
   rw[<-hrn] at HNm HR3
   clear ha HT hat hrd HR2 hrn ht
   go_wp2_with fail
   refine HNm.out.mono ?_
   rintro e w3 ⟨rfl,hw3⟩
   rw[hw3]
   clear hw3 w3 HNm
   cases rn with
   |false=>
    have HR4:Hid (r=.error 70):=HR3.out.trans (if_pos (by first | rfl | trivial))
    clear HR3
    go_wp2_with fail
    refine(cE _ 70 _).mono ?_
    rintro e w3 ⟨rfl,hw3⟩
    rw[hw3]
    clear hw3 w3
    go_wp2
    rw[HR4.out]
    exact⟨rfl,rfl,HA2.out⟩
   |true=>
    have HR4:Hid (r=.ok (t,k+j)):=HR3.out.trans (if_neg (by first | decide | simp))
    clear HR3
    go_wp2_with fail
    refine(cD _ 70 _).mono ?_
    rintro e w3 ⟨rfl,hw3⟩
    rw[hw3]
    clear hw3 w3
    go_wp2
    go_ret
    rw[HR4.out]
    exact⟨_,rfl,rfl,HRd.out,HA2.out⟩
end
section
open Go.RowKit
theorem qa(m x k:Nat)(hm:m<256 ^ k)(hx:m+x*256 ^ k<18446744073709551616):bits .or .u64 (m:Int) (IntKind.u64.wrap ((x:Int)*2 ^ (8*k)))=((m+x*256 ^ k:Nat):Int):=by
 have e:(2:Nat) ^ (8*k)=256 ^ k:=by rw[Nat.pow_mul]
 have e2:((x:Int)*2 ^ (8*k))=((x*256 ^ k:Nat):Int):=by
  rw[<-e];push_cast;rfl
 have e3:IntKind.u64.wrap (((x*256 ^ k:Nat):Int))=((x*256 ^ k:Nat):Int):=by
  rw[IntKind.wrap_u64];omega
 rw[e2,e3,bits_join_low .u64 64 (by decide) wraps_u64 (8*k) (m:Int) _ (by omega) (by rw[<-e] at hm;exact_mod_cast hm) (by omega) (by omega) (by rw[<-e];push_cast;exact Int.mul_emod_left _ _) (by omega)]
 omega
theorem jv(r:L8)(k:Nat)(h:k<r.length):Sch.un (r.take (k+1))=Sch.un (r.take k)+r[k].toNat*256 ^ k:=by
 induction r generalizing k with
 |nil=>simp at h
 |cons c r ih=>
  cases k with
  |zero=>simp[Sch.un]
  |succ k=>
   have hk:k<r.length:=by simpa using h
   have:=ih k hk
   simp only[List.take_succ_cons,Sch.un,List.getElem_cons_succ,this,Nat.pow_succ]
   generalize (256:Nat) ^ k=P
   generalize r[k].toNat=x
   rw[Nat.add_mul,Nat.mul_assoc]
   omega
theorem gK(r:L8)(k:Nat)(h:k<=r.length):Sch.un (r.take k)<256 ^ k:=by
 have:=Sch.un_lt (r.take k)
 rw[List.length_take,Nat.min_eq_left h] at this
 exact this
def isF(n:Nat)(v:Value)(_:World):Prop:=v=.float .f64 n
theorem tS(l:L8)(A R:Nat)(w:World)(h:Rdr w A R l):Calls Tryz.prog 171 #[.pointer (some ⟨R,0,none⟩)] w (RdA w A R l (Sch.float l) isF):=by
 have HT:=vQ (kn 8 l A R w h)
 obtain⟨r,hr⟩:∃r,r=Sch.float l:=⟨_,rfl⟩
 rw[<-hr]
 clear h
 by_cases hlt:l.length<8
 ·have e1:bQ 8 l=.error 30:=by rw[bQ,if_pos hlt]
  have HR:Hid (r=.error 30):=by show _=_;rw[hr,Sch.float,if_pos hlt]
  rw[e1] at HT
  clear e1 hlt hr
  go_enter Tryz.func171,Tryz.ntmps171
  go_wp2_with fail
  refine HT.out.mono ?_
  intro e w1 hh
  obtain⟨he,ha⟩:=hh.bad
  subst he
  clear hh
  have HA:=vQ ha
  clear ha HT
  go_wp2
  rw[HR.out]
  exact⟨rfl,rfl,HA.out⟩
 ·have e1:bQ 8 l=.ok (l.take 8,8):=by rw[bQ,if_neg hlt]
  have HR:Hid (r=if aC (Sch.un (l.take 8))=Sch.un (l.take 8) then .ok (Sch.un (l.take 8),8) else .error 5):=by show _=_;rw[hr,Sch.float,if_neg hlt]
  rw[e1] at HT
  have hb8:(l.take 8).length=8:=by rw[List.length_take];omega
  obtain⟨b,hb⟩:∃b,b=l.take 8:=⟨_,rfl⟩
  rw[<-hb] at HT HR hb8
  have HB8:=vQ hb8
  have HU:Hid (Sch.un (b.take 0)=0):=by show _=_;simp[Sch.un]
  clear e1 hlt hr hb hb8
  go_enter Tryz.func171,Tryz.ntmps171
  go_wp2_with fail
  refine HT.out.mono ?_
  intro e w1 hh
  obtain⟨v,he,hv,hrd,ha⟩:=hh.good
  obtain⟨q,c,hv2,hat,-⟩:=hv.open
  clear hh hv
  subst hv2
  subst he
  rw[HB8.out]
  have HA:=vQ ha
  have HRd:=vQ hrd
  obtain⟨bq,oq,hq,-,hcs⟩:=bz hat (by rw[HB8.out];decide)
  subst hq
  have HCs:=vQ hcs
  clear ha HT hat hrd hcs
  go_wp2_with fail
  go_loop [3,10] (fun v3 v10=>∃(k m:Nat),k<=8∧v10=.int .i64 k∧v3=.int .u64 m∧m<18446744073709551616∧Hid (m=Sch.un (b.take k))) (fun _ v10=>8-(intOf v10).toNat)
  case atStart=>exact⟨0,0,by omega,rfl,rfl,by omega,HU.out.symm⟩
  case round=>
   obtain⟨k,m,hk,rfl,rfl,hm,HK⟩:=hrel
   by_cases hk8:k<8
   ·have hk1:(k:Int)<8:=by omega
    have hkb:k<b.length:=by rw[HB8.out];exact hk8
    have d0:=HCs.out k hkb
    have hs:=jv b k hkb
    have hlt2:=gK b (k+1) (by omega)
    obtain⟨x,hx⟩:∃x,x=b[k].toNat:=⟨_,rfl⟩
    rw[<-hx] at d0 hs
    have hx8:x<256:=by rw[hx];exact b[k].toNat_lt
    have hlim:m+x*256 ^ k<18446744073709551616:=by
     rw[HK.out,<-hs]
     have e:(256:Nat) ^ (k+1)<=256 ^ 8:=Nat.pow_le_pow_right (by decide) (by omega)
     have e2:(256:Nat) ^ 8=18446744073709551616:=by decide
     omega
    have hor:=qa m x k (by rw[HK.out];exact gK b k (by omega)) hlim
    have HN:Hid (m+x*256 ^ k=Sch.un (b.take (k+1))):=by show _=_;rw[hs,HK.out]
    clear hs hlt2 hx HK hkb
    obtain⟨y,hy⟩:∃y,y=m+x*256 ^ k:=⟨_,rfl⟩
    rw[<-hy] at hor HN hlim
    clear hy
    go_wp2
    go_round
    case rel=>exact⟨k+1,y,by omega,by go_num,rfl,hlim,HN.out⟩
    case measure=>simp[intOf];omega
   ·have hkn:¬(k:Int)<8:=by omega
    have hk9:k=8:=by omega
    subst hk9
    have HN:Hid (m=Sch.un b):=by
     show _=_
     rw[HK.out,List.take_of_length_le (by rw[HB8.out];exact vX)]
    clear HK
    have HOf:=vQ (me (m:Int))
    have em:((m:Int)).toNat=m:=by omega
    rw[em] at HOf
    have HBi:=vQ (dF (aC m))
    rw[fO] at HBi
    have HR2:Hid (r=if aC m=m then .ok (m,8) else .error 5):=by show _=_;rw[HR.out,HN.out]
    clear HR HN em
    go_wp2_with fail
    refine(HOf.out _).mono ?_
    rintro e w2 ⟨rfl,hw2⟩
    rw[hw2]
    clear hw2 w2
    go_wp2_with fail
    refine(HBi.out _).mono ?_
    rintro e w2 ⟨rfl,hw2⟩
    rw[hw2]
    clear hw2 w2
    by_cases hfx:aC m=m
    ·have HR4:Hid (r=.ok (m,8)):=HR2.out.trans (if_pos hfx)
     rw[hfx]
     clear HR2
     go_wp2_with fail
     refine(cD _ 5 _).mono ?_
     rintro e w2 ⟨rfl,hw2⟩
     rw[hw2]
     clear hw2 w2
     go_wp2
     go_ret
     rw[HR4.out]
     exact⟨_,rfl,rfl,HRd.out,HA.out⟩
    ·have HR4:Hid (r=.error 5):=HR2.out.trans (if_neg hfx)
     have g0:((aC m:Int)==(m:Int))=false:=aH (by omega)
     clear HR2
     go_wp2_with fail
     refine(cE _ 5 _).mono ?_
     rintro e w2 ⟨rfl,hw2⟩
     rw[hw2]
     clear hw2 w2
     go_wp2
     rw[HR4.out]
     exact⟨rfl,rfl,HA.out⟩
end
end Go.Proofs.YtlgfdgdlaahpfaaGreatDoor
