import Derived.Test.YtlgfdgdlaahpfaaGreatDoorA7
import Derived.Test.YtlgfdgdlaahpfaaGreatDoorB19
set_option maxRecDepth 100000
set_option maxHeartbeats 4000000
namespace Go.Proofs.YtlgfdgdlaahpfaaGreatDoor
section
open Go.RowKit
structure bS(w:World)(A R:Nat)(l:L8):Prop where
 out:∃p c,w.1[R]?=some (.cells #[.slice p l.length c] 133 (0,0))∧At w p l∧l.length<=c∧(l≠[]->∀a,p=some a->a.block<A)
 small:l.length<=2200
 low:A<=R
theorem bS.lt{w:World}{A R:Nat}{l:L8}(h:bS w A R l):R<w.1.size:=by
 obtain⟨p,c,h1,_⟩:=h.out
 exact aw h1
theorem bS.keep{w w':World}{A R:Nat}{l:L8}(h:bS w A R l)(hk:∀k,k<=R->w'.1[k]?=w.1[k]?)(hs:w.1.size<=w'.1.size):bS w' A R l:=by
 obtain⟨p,c,h1,h2,h3,h4⟩:=h.out
 have hl:=h.low
 exact⟨⟨p,c,(hk R vX).trans h1,h2.keep h4 (fun k hk'=>hk k (by omega)) hs,h3,h4⟩,h.small,h.low⟩
theorem bS.on{w w':World}{A R:Nat}{l:L8}(h:bS w A R l)(hb:Below w.1.size w w'):bS w' A R l:=h.keep (fun k hk=>hb.block k (by have:=h.lt;omega)) hb.size
theorem bS.aside{w w':World}{A R:Nat}{l:L8}{F:Nat->Prop}(h:bS w A R l)(ha:Aside F w w')(hF:∀k,F k->R<k):bS w' A R l :=
 h.keep (fun k hk=>ha.block k (by have:=h.lt;omega) (fun hc=>by have:=hF k hc;omega)) ha.size
theorem bS.drew{w:World}{A R:Nat}{l:L8}(h:bS w A R l):bS w.drew A R l:=h.keep (fun _ _=>rfl) vX
theorem bS.cut{w:World}{A R:Nat}{l:L8}{p:OA}{c:Nat}(h:bS w A R l)(h1:w.1[R]?=some (.cells #[.slice p l.length c] 133 (0,0)))(h2:At w p l)(h3:l.length<=c)(h4:l≠[]->∀a,p=some a->a.block<A)(n:Nat)(hn:n<=l.length):
  bS (w.setCell ⟨R,0,none⟩ (.slice (dm p n c) (l.length-n) (c-n))) A R (l.drop n):=by
 have hl:=h.low
 have h5:l.drop n≠[]->∀a,dm p n c=some a->a.block<A:=fun hne=>eP (h4 (fun he=>hne (by rw[he];simp)))
 refine⟨⟨dm p n c,c-n,?_,?_,by rw[List.length_drop];omega,h5⟩,by rw[List.length_drop];have:=h.small;omega,hl⟩
 ·rw[ap h1 0,List.length_drop];rfl
 ·refine(h2.cut n c h3).keep h5 (fun k hk=>?_) (by simp[World.setCell])
  exact Below.heap_setCell _ _ _ _ (by show k≠R;omega)
def RdB{α:Type}(w:World)(A R:Nat)(l:L8)(r:Except Nat (α×Nat))(V:α->Value->World->Prop)(e:Ending)(w':World):Prop:=match r with
 |.error k=>e=.panicked (dS k)∧Aside (fun i=>i=R) w w'
 |.ok (a,j)=>∃v,e=.returned v∧V a v w'∧bS w' A R (l.drop j)∧Aside (fun i=>i=R) w w'
theorem RdB.good{α:Type}{w w':World}{A R:Nat}{l:L8}{a:α}{j:Nat}{V:α->Value->World->Prop}{e:Ending}(h:RdB w A R l (.ok (a,j)) V e w'):∃v,e=.returned v∧V a v w'∧bS w' A R (l.drop j)∧Aside (fun i=>i=R) w w':=h
theorem RdB.bad{α:Type}{w w':World}{A R:Nat}{l:L8}{k:Nat}{V:α->Value->World->Prop}{e:Ending}(h:RdB w A R l (.error k) V e w'):e=.panicked (dS k)∧Aside (fun i=>i=R) w w':=h
theorem gC(a:Value)(k:Int)(w:World):Calls Tryz.prog 143 #[a,.bool true,.int .i64 k] w fun e w'=>e=.returned (.tuple #[])∧w'=w:=by
 go_enter Tryz.func143,Tryz.ntmps143
 go_wp2
 go_end0
 exact⟨rfl,rfl⟩
theorem fh(a:Value)(k:Nat)(w:World):Calls Tryz.prog 143 #[a,.bool false,.int .i64 k] w fun e w'=>e=.panicked (dS k)∧w'=w:=by
 go_enter Tryz.func143,Tryz.ntmps143
 go_wp2
 exact⟨rfl,rfl,rfl⟩
theorem fg(lim:Nat)(hlim:lim<=1099511627776)(l:L8)(A R:Nat)(w:World)(h:bS w A R l):Calls Tryz.prog 142 #[.pointer (some ⟨R,0,none⟩),.int .u64 lim] w (RdB w A R l (Fr.nb lim l) isI):=by
 obtain⟨p,c,h1,h2,h3,h4⟩:=h.out
 have hsm:=h.small
 have c0:w.cell? ⟨R,0,none⟩=some (.slice p l.length c):=aa h1 0
 have f0:=ac h1 0
 have HG:=vQ (nz p c l 0 (by omega) h3 w h2)
 obtain⟨r,hr⟩:∃r,r=Fr.nb lim l:=⟨_,rfl⟩
 have HR:=vQ hr
 rw[<-hr]
 clear hr
 cases hm:Sch.num l with
 |error er=>
  have HR2:Hid (r=.error 5):=by show _=_;rw[HR.out,Fr.nb,hm]
  obtain⟨he0,m,hgv⟩:=jm hm
  rw[hgv] at HG
  have g0:((er:Int)==0)=false:=aH (by omega)
  clear hm HR hgv h1 h2 h3 h4 h he0
  go_enter Tryz.func142,Tryz.ntmps142
  go_wp2_with fail
  refine HG.out.mono ?_
  rintro e w1 ⟨rfl,hw1⟩
  rw[hw1]
  clear hw1 w1 HG
  go_wp2_with fail
  refine(fh _ 5 _).mono ?_
  rintro e w1 ⟨rfl,hw1⟩
  rw[hw1]
  clear hw1 w1
  go_wp2
  rw[HR2.out]
  exact⟨rfl,rfl,Aside.refl _ _⟩
 |ok nk=>
  obtain⟨n,k⟩:=nk
  rw[kY hm] at HG
  obtain⟨hk,hn64⟩:=ig hm
  have s2:=cW p l.length c k hk w
  have HCut:=vQ (h.cut h1 h2 h3 h4 k hk)
  by_cases hlt:n<lim
  ·have HR2:Hid (r=.ok (n,k)):=by show _=_;rw[HR.out,Fr.nb,hm];exact if_pos hlt
   have g1:(n:Int)<(lim:Int):=by omega
   have g2:(n:Int)<=1099511627776:=by omega
   clear hm HR h1 h2 h3 h4 h hk
   go_enter Tryz.func142,Tryz.ntmps142
   go_wp2_with fail
   refine HG.out.mono ?_
   rintro e w1 ⟨rfl,hw1⟩
   rw[hw1]
   clear hw1 w1 HG
   go_wp2_with fail
   refine(gC _ 5 _).mono ?_
   rintro e w1 ⟨rfl,hw1⟩
   rw[hw1]
   clear hw1 w1
   go_wp2
   go_ret
   rw[HR2.out]
   exact⟨_,rfl,rfl,HCut.out,af _ _ _ _⟩
  ·have HR2:Hid (r=.error 5):=by show _=_;rw[HR.out,Fr.nb,hm];exact if_neg hlt
   have g1:¬(n:Int)<(lim:Int):=by omega
   clear hm HR h1 h2 h3 h4 h hk s2 HCut
   go_enter Tryz.func142,Tryz.ntmps142
   go_wp2_with fail
   refine HG.out.mono ?_
   rintro e w1 ⟨rfl,hw1⟩
   rw[hw1]
   clear hw1 w1 HG
   go_wp2_with fail
   refine(fh _ 5 _).mono ?_
   rintro e w1 ⟨rfl,hw1⟩
   rw[hw1]
   clear hw1 w1
   go_wp2
   rw[HR2.out]
   exact⟨rfl,rfl,Aside.refl _ _⟩
theorem dZ(l:L8)(A R:Nat)(w:World)(h:bS w A R l):Calls Tryz.prog 144 #[.pointer (some ⟨R,0,none⟩)] w (RdB w A R l (Fr.nb 1099511627776 l) isI):=by
 have HN:=vQ (fg 1099511627776 (by omega) l A R w h)
 clear h
 obtain⟨r,hr⟩:∃r,r=Fr.nb 1099511627776 l:=⟨_,rfl⟩
 rw[<-hr] at HN ⊢
 clear hr
 cases r with
 |error er=>
  go_enter Tryz.func144,Tryz.ntmps144
  go_wp2_with fail
  refine HN.out.mono ?_
  intro e w1 hh
  obtain⟨he,ha⟩:=hh.bad
  subst he
  have HA:=vQ ha
  clear hh ha HN
  go_wp2
  exact⟨rfl,rfl,HA.out⟩
 |ok nk=>
  obtain⟨n,k⟩:=nk
  go_enter Tryz.func144,Tryz.ntmps144
  go_wp2_with fail
  refine HN.out.mono ?_
  intro e w1 hh
  obtain⟨v,he,hv,hrd,ha⟩:=hh.good
  replace hv:v=.int .i64 (n:Nat):=hv
  subst hv
  subst he
  have HA:=vQ ha
  have HRd:=vQ hrd
  clear hh ha hrd HN
  go_wp2
  go_ret
  exact⟨_,rfl,rfl,HRd.out,HA.out⟩
end
section
open Go.RowKit
def eT(w:World)(R:Nat)(r:Except Nat Fr)(V:Fr->Value->World->Prop)(e:Ending)(w':World):Prop:=match r with
 |.error k=>e=.panicked (dS k)∧Aside (fun i=>i=R) w w'
 |.ok f=>∃v,e=.returned v∧V f v w'∧Aside (fun i=>i=R) w w'
def uJ(B:Nat)(f:Fr)(v:Value)(w:World):Prop:=∃sp sc,v=.agg #[.int .i64 f.number,.slice sp f.cols.length sc]∧cL w B #[.slice sp f.cols.length sc] f.cols
def uL(B:Nat)(f:Fr)(v:Value)(w:World):Prop:=∃bp bc,v=.agg #[.int .i64 f.number,.int .i64 f.seq,.int .i64 f.first,.int .i64 f.rows,.slice bp f.block.length bc]∧Has w B (.slice bp f.block.length bc) f.block
def qM(B:Nat)(f:Fr)(v:Value)(w:World):Prop:=∃ep ec,v=.agg #[.int .i64 f.index.at_,.int .i64 f.index.frames,.int .i64 f.index.rows,.slice ep f.index.entries.length ec]∧bf w B (.slice ep f.index.entries.length ec) f.index.entries
theorem fH{w W:World}{B:Nat}{u:AV}{s:List Col}{G:Nat->Prop}(h:cL w B u s)(ha:Aside G w W)(hG:∀k,B<=k->k<w.1.size->¬G k):cL W B u s:=by
 obtain⟨v,us,Fs,h1,h2,h3⟩:=h.out
 exact⟨v,us,Fs,h1,h2.aside ha (fun g hg=>hG g (h2.lt g hg).1 (h2.lt g hg).2) (fun j hj k hk=>hG k (h2.range j hj k hk).1 (h2.range j hj k hk).2),h3⟩
theorem eW{w:World}{B B':Nat}{u:AV}{s:List Col}(h:cL w B u s)(hB:B'<=B):cL w B' u s:=by
 obtain⟨v,us,Fs,h1,h2,h3⟩:=h.out
 exact⟨v,us,Fs,h1,h2.low hB,h3⟩
theorem iH(l:L8)(A R:Nat)(w:World)(h:bS w A R l):Calls Tryz.prog 116 #[.pointer (some ⟨R,0,none⟩)] w (eT w R (Fr.rdS l) (uJ w.1.size)):=by
 obtain⟨w0,hw0⟩:∃w0,w0=w.alloc (.cells #[.int .i64 0,.slice none 0 0] 124):=⟨_,rfl⟩
 have hz0:w0.1.size=w.1.size+1:=by rw[hw0];simp
 have HB0:Hid (Below w.1.size w w0):=by rw[hw0];exact vY
 have HK0:Hid (w0.1[w.1.size]?=some (.cells #[.int .i64 0,.slice none 0 0] 124 (0,0))):=by show _=_;rw[hw0];exact ag w _
 have HW:Hid (w.alloc (.cells #[.int .i64 0,.slice none 0 0] 124)=w0):=by rw[hw0];exact rfl
 have HRd:=vQ (h.on HB0.out)
 have hRlt:=h.lt
 have HN:=vQ (fg 2147483648 (by omega) l A R w0 HRd.out)
 obtain⟨r,hr⟩:∃r,r=Fr.rdS l:=⟨_,rfl⟩
 have HR:Hid (r=match Fr.nb 2147483648 l with
  |.error e=>.error e
  |.ok (n,k)=>match Sch.read (l.drop k) with
   |.error e=>.error e
   |.ok s=>.ok { Fr0 with kind:=1,number:=n,cols:=s }):=hr
 rw[<-hr]
 have HA0:Hid (Aside (fun i=>i=R) w w0):=ae HB0.out _
 clear hr h hw0
 cases hm:Fr.nb 2147483648 l with
 |error er=>
  rw[hm] at HN
  have HR2:Hid (r=.error er):=by show _=_;rw[HR.out,hm]
  clear hm HR
  go_enter Tryz.func116,Tryz.ntmps116
  go_wp2_with fail
  rw[HW.out]
  refine HN.out.mono ?_
  intro e w1 hh
  obtain⟨he,ha⟩:=hh.bad
  subst he
  have HA:=vQ (HA0.out.trans ha (fun _ _ h=>h))
  clear hh ha HN
  go_wp2
  rw[HR2.out]
  exact⟨rfl,rfl,HA.out⟩
 |ok nk=>
  obtain⟨n,k⟩:=nk
  rw[hm] at HN
  have HR2:Hid (r=match Sch.read (l.drop k) with
   |.error e=>.error e
   |.ok s=>.ok { Fr0 with kind:=1,number:=n,cols:=s }):=by show _=_;rw[HR.out,hm]
  clear hm HR
  go_enter Tryz.func116,Tryz.ntmps116
  go_wp2_with fail
  rw[HW.out]
  refine HN.out.mono ?_
  intro e w1 hh
  obtain⟨v,he,hv,hrd,ha⟩:=hh.good
  replace hv:v=.int .i64 (n:Nat):=hv
  subst hv
  subst he
  have HA:=vQ (HA0.out.trans ha (fun _ _ h=>h))
  obtain⟨p1,c1,hb1,hat1,hc1,-⟩:=hrd.out
  have r0:w1.cell? ⟨R,0,none⟩=some (.slice p1 (l.drop k).length c1):=aa hb1 0
  have hsm:=hrd.small
  have HK1:Hid (w1.1[w.1.size]?=some (.cells #[.int .i64 0,.slice none 0 0] 124 (0,0))):=(ha.block _ (by omega) (by omega)).trans HK0.out
  have hs1:w.1.size+1<=w1.1.size:=by have:=ha.size;omega
  have HD:=vQ (nC p1 (l.drop k) c1 (by omega) hc1 w1 hat1)
  clear hh ha hrd HN hb1 hat1 hc1
  obtain⟨L,hL⟩:∃L,L=(l.drop k).length:=⟨_,rfl⟩
  rw[<-hL] at HD r0
  clear hL
  obtain⟨sr,hsr⟩:∃sr,sr=Sch.read (l.drop k):=⟨_,rfl⟩
  rw[<-hsr] at HD HR2
  have HSr:=vQ hsr
  clear hsr
  cases sr with
  |error er=>
   have HR3:Hid (r=.error er):=HR2.out
   have hne:er≠0:=Sch.read_ne HSr.out.symm
   have g0:((er:Int)==0)=false:=aH (by omega)
   go_wp2_with fail
   refine HD.out.mono ?_
   rintro e w2 ⟨rfl,hb⟩
   have HB2:=vQ hb
   have HA2:Hid (∀o,Aside (fun i=>i=R) w (w2.alloc o)):=fun o=>(HA.out.trans (ae hb (fun i=>i=R)) (fun _ _ h=>h)).alloc o
   clear hb HD HR2 hne HSr
   go_wp2_with fail
   refine(fh _ er _).mono ?_
   rintro e w3 ⟨rfl,hw3⟩
   rw[hw3]
   clear hw3 w3
   go_wp2
   rw[HR3.out]
   exact⟨rfl,rfl,HA2.out _⟩
  |ok s=>
   have HR3:Hid (r=.ok { Fr0 with kind:=1,number:=n,cols:=s }):=HR2.out
   go_wp2_with fail
   refine HD.out.mono ?_
   rintro e w2 ⟨u,rfl,hso,hb⟩
   have hK2:w2.1[w.1.size]?=some (.cells #[.int .i64 0,.slice none 0 0] 124 (0,0)):=(hb.block _ (by omega)).trans HK1.out
   obtain⟨sp,sc,rfl,-,-,-⟩:=hso.lies.out
   have HSo:=vQ hso
   have HB2:=vQ hb
   have hs2:=hb.size
   have HA2:=vQ (HA.out.trans (ae hb (fun i=>i=R)) (fun _ _ h=>h))
   obtain⟨w3,hw3⟩:∃w3,w3=w2.alloc (.cells #[.slice sp s.length sc] 30):=⟨_,rfl⟩
   have hK3:w3.1[w.1.size]?=some (.cells #[.int .i64 0,.slice none 0 0] 124 (0,0)):=by rw[hw3,aD _ _ (by omega)];exact hK2
   have HK3:=vQ hK3
   have x0:w3.cell? ⟨w.1.size,0,none⟩=some (.int .i64 0):=aa hK3 0
   have x1:w3.cell? ⟨w.1.size,1,none⟩=some (.slice none 0 0):=aa hK3 1
   have xf0:=ac hK3 0
   have xf1:=ac hK3 1
   have y0:w3.cell? ⟨w2.1.size,0,none⟩=some (.slice sp s.length sc):=by rw[hw3];simp
   have HA3:Hid (Aside (fun i=>i=R) w w3):=by rw[hw3];exact HA2.out.alloc _
   have HA23:Hid (Aside (fun i=>i=w.1.size) w2 w3):=by rw[hw3];exact(Aside.refl _ _).alloc _
   have HW3:Hid (w2.alloc (.cells #[.slice sp s.length sc] 30)=w3):=by rw[hw3];exact rfl
   clear hb HD HR2 HSr hso hK2 hK3 hw3
   go_wp2_with fail
   rw[HW3.out]
   refine(gC _ _ _).mono ?_
   rintro e w4 ⟨rfl,hw4⟩
   rw[hw4]
   clear hw4 w4
   go_wp2
   have HKf:Hid (((w3.setCell ⟨w.1.size,0,none⟩ (.int .i64 n)).setCell ⟨w.1.size,1,none⟩ (.slice sp s.length sc)).1[w.1.size]?=some (.cells #[.int .i64 n,.slice sp s.length sc] 124 (0,0))):=ap (ap HK3.out 0 _) 1 _
   have hAf:Aside (fun i=>i=w.1.size) w3 ((w3.setCell ⟨w.1.size,0,none⟩ (.int .i64 n)).setCell ⟨w.1.size,1,none⟩ (.slice sp s.length sc)):=(af w3 w.1.size 0 _).trans (af _ w.1.size 1 _) (fun _ _ h=>h)
   refine bodyPost_ret (v:=.agg #[.int .i64 n,.slice sp s.length sc]) (results_cell_row rfl _ _ w.1.size _ _ _ _ rfl HKf.out Tryz.underlying124 rfl (by kernel_rfl)) rfl ?_
   rw[HR3.out]
   refine⟨_,rfl,⟨sp,sc,rfl,?_⟩,?_⟩
   ·exact eW (fH HSo.out (HA23.out.trans hAf (fun _ _ h=>h)) (fun k h1 h2 h3=>by omega)) (by omega)
   ·exact HA3.out.trans hAf (fun i hi h=>by omega)
end
section
open Go.RowKit
theorem uD(a b c d:Nat)(l:L8):Fr.nbs [a,b,c,d] l=am (Fr.nb a l) fun x k=>am (Fr.nb b (l.drop k)) fun y k2=>am (Fr.nb c ((l.drop k).drop k2)) fun z k3=>am (Fr.nb d (((l.drop k).drop k2).drop k3)) fun t k4=>.ok ([x,y,z,t],k+(k2+(k3+(k4+0)))):=by
 unfold Fr.nbs
 cases Fr.nb a l with
 |error e=>rfl
 |ok p=>
  obtain⟨x,k⟩:=p
  dsimp only[am]
  unfold Fr.nbs
  cases Fr.nb b (l.drop k) with
  |error e=>rfl
  |ok p=>
   obtain⟨y,k2⟩:=p
   dsimp only[am]
   unfold Fr.nbs
   cases Fr.nb c ((l.drop k).drop k2) with
   |error e=>rfl
   |ok p=>
    obtain⟨z,k3⟩:=p
    dsimp only[am]
    unfold Fr.nbs
    cases Fr.nb d (((l.drop k).drop k2).drop k3) with
    |error e=>rfl
    |ok p=>rfl
theorem tf(l:L8)(k k2 k3 k4:Nat):l.drop (k+(k2+(k3+(k4+0))))=(((l.drop k).drop k2).drop k3).drop k4:=by
 rw[List.drop_drop,List.drop_drop,List.drop_drop,Nat.add_zero]
def uR(n q f r:Nat)(b:L8):Fr:={ Fr0 with kind:=2,number:=n,seq:=q,first:=f,rows:=r,block:=b }
theorem tu(l:L8):Fr.rdD l=am (Fr.nb 2147483648 l) fun n k=>am (Fr.nb 1099511627776 (l.drop k)) fun q k2=>am (Fr.nb 1099511627776 ((l.drop k).drop k2)) fun f k3=>am (Fr.nb 65 (((l.drop k).drop k2).drop k3)) fun r k4=>if r<1 then .error 5 else .ok (uR n q f r ((((l.drop k).drop k2).drop k3).drop k4)):=by
 unfold Fr.rdD
 rw[uD]
 cases Fr.nb 2147483648 l with
 |error e=>rfl
 |ok p=>
  obtain⟨x,k⟩:=p
  dsimp only[am]
  cases Fr.nb 1099511627776 (l.drop k) with
  |error e=>rfl
  |ok p=>
   obtain⟨y,k2⟩:=p
   dsimp only[am]
   cases Fr.nb 1099511627776 ((l.drop k).drop k2) with
   |error e=>rfl
   |ok p=>
    obtain⟨z,k3⟩:=p
    dsimp only[am]
    cases Fr.nb 65 (((l.drop k).drop k2).drop k3) with
    |error e=>rfl
    |ok p=>
     obtain⟨t,k4⟩:=p
     dsimp only[am]
     rw[tf]
     rfl
theorem li(l:L8)(A R:Nat)(w:World)(h:bS w A R l):Calls Tryz.prog 117 #[.pointer (some ⟨R,0,none⟩)] w (eT w R (Fr.rdD l) (uL w.1.size)):=by
 obtain⟨w0,hw0⟩:∃w0,w0=w.alloc (.cells #[.int .i64 0,.int .i64 0,.int .i64 0,.int .i64 0,.slice none 0 0] 126):=⟨_,rfl⟩
 have hz0:w0.1.size=w.1.size+1:=by rw[hw0];simp
 have HB0:Hid (Below w.1.size w w0):=by rw[hw0];exact vY
 have HK0:Hid (w0.1[w.1.size]?=some (.cells #[.int .i64 0,.int .i64 0,.int .i64 0,.int .i64 0,.slice none 0 0] 126 (0,0))):=by show _=_;rw[hw0];exact ag w _
 have HW:Hid (w.alloc (.cells #[.int .i64 0,.int .i64 0,.int .i64 0,.int .i64 0,.slice none 0 0] 126)=w0):=by rw[hw0];exact rfl
 have HRd:=vQ (h.on HB0.out)
 have hRlt:=h.lt
 obtain⟨r,hr⟩:∃r,r=Fr.rdD l:=⟨_,rfl⟩
 have HR0:=vQ (hr.trans (tu l))
 rw[<-hr]
 have HA0:Hid (Aside (fun i=>i=R) w w0):=ae HB0.out _
 obtain⟨L0,hL0⟩:∃L0,L0=l:=⟨_,rfl⟩
 rw[<-hL0] at HRd HR0
 clear hr h hw0 hL0
 go_enter Tryz.func117,Tryz.ntmps117
 have HN:=vQ (fg 2147483648 (by omega) L0 A R w0 HRd.out)
 obtain⟨m0,hm0⟩:∃m,m=Fr.nb 2147483648 L0:=⟨_,rfl⟩
 rw[<-hm0] at HN HR0
 clear hm0
 go_wp2_with fail
 rw[HW.out]
 refine HN.out.mono ?_
 intro e w1 hh
 cases m0 with
 |error er=>
  have HRe:Hid (r=.error er):=HR0.out
  obtain⟨he,ha⟩:=hh.bad
  subst he
  have HA:=vQ (HA0.out.trans ha (fun _ _ h=>h))
  clear hh ha HN
  go_wp2
  rw[HRe.out]
  exact⟨rfl,rfl,HA.out⟩
 |ok nk=>
  obtain⟨n,k0⟩:=nk
  obtain⟨v,he,hv,hrd,ha⟩:=hh.good
  replace hv:v=.int .i64 (n:Nat):=hv
  subst hv
  subst he
  have HA1:=vQ (HA0.out.trans ha (fun _ _ h=>h))
  have HK1:Hid (w1.1[w.1.size]?=some (.cells #[.int .i64 0,.int .i64 0,.int .i64 0,.int .i64 0,.slice none 0 0] 126 (0,0))):=(ha.block _ (by omega) (by omega)).trans HK0.out
  have hz1:w.1.size+1<=w1.1.size:=by have:=ha.size;omega
  have HR1:=vQ (show r=_ from HR0.out)
  dsimp only[am] at HR1
  obtain⟨L1,hL1⟩:∃L,L=L0.drop k0:=⟨_,rfl⟩
  rw[<-hL1] at HR1 hrd
  have HRd1:=vQ hrd
  clear hh ha hrd HN hL1 HR0 HA0 HK0
  have HN:=vQ (dZ L1 A R w1 HRd1.out)
  obtain⟨m1,hm1⟩:∃m,m=Fr.nb 1099511627776 L1:=⟨_,rfl⟩
  rw[<-hm1] at HN HR1
  clear hm1
  go_wp2_with fail
  refine HN.out.mono ?_
  intro e w2 hh
  cases m1 with
  |error er=>
   have HRe:Hid (r=.error er):=HR1.out
   obtain⟨he,ha⟩:=hh.bad
   subst he
   have HA:=vQ (HA1.out.trans ha (fun _ _ h=>h))
   clear hh ha HN
   go_wp2
   rw[HRe.out]
   exact⟨rfl,rfl,HA.out⟩
  |ok nk=>
   obtain⟨q,k1⟩:=nk
   obtain⟨v,he,hv,hrd,ha⟩:=hh.good
   replace hv:v=.int .i64 (q:Nat):=hv
   subst hv
   subst he
   have HA2:=vQ (HA1.out.trans ha (fun _ _ h=>h))
   have HK2:Hid (w2.1[w.1.size]?=some (.cells #[.int .i64 0,.int .i64 0,.int .i64 0,.int .i64 0,.slice none 0 0] 126 (0,0))):=(ha.block _ (by omega) (by omega)).trans HK1.out
   have hz2:w.1.size+1<=w2.1.size:=by have:=ha.size;omega
   have HR2:=vQ (show r=_ from HR1.out)
   dsimp only[am] at HR2
   obtain⟨L2,hL2⟩:∃L,L=L1.drop k1:=⟨_,rfl⟩
   rw[<-hL2] at HR2 hrd
   have HRd2:=vQ hrd
   clear hh ha hrd HN hL2 HR1 HA1 HK1
   have HN:=vQ (dZ L2 A R w2 HRd2.out)
   obtain⟨m2,hm2⟩:∃m,m=Fr.nb 1099511627776 L2:=⟨_,rfl⟩
   rw[<-hm2] at HN HR2
   clear hm2
   go_wp2_with fail
   refine HN.out.mono ?_
   intro e w3 hh
   cases m2 with
   |error er=>
    have HRe:Hid (r=.error er):=HR2.out
    obtain⟨he,ha⟩:=hh.bad
    subst he
    have HA:=vQ (HA2.out.trans ha (fun _ _ h=>h))
    clear hh ha HN
    go_wp2
    rw[HRe.out]
    exact⟨rfl,rfl,HA.out⟩
   |ok nk=>
    obtain⟨f,k2⟩:=nk
    obtain⟨v,he,hv,hrd,ha⟩:=hh.good
    replace hv:v=.int .i64 (f:Nat):=hv
    subst hv
    subst he
    have HA3:=vQ (HA2.out.trans ha (fun _ _ h=>h))
    have HK3:Hid (w3.1[w.1.size]?=some (.cells #[.int .i64 0,.int .i64 0,.int .i64 0,.int .i64 0,.slice none 0 0] 126 (0,0))):=(ha.block _ (by omega) (by omega)).trans HK2.out
    have hz3:w.1.size+1<=w3.1.size:=by have:=ha.size;omega
    have HR3:=vQ (show r=_ from HR2.out)
    dsimp only[am] at HR3
    obtain⟨L3,hL3⟩:∃L,L=L2.drop k2:=⟨_,rfl⟩
    rw[<-hL3] at HR3 hrd
    have HRd3:=vQ hrd
    clear hh ha hrd HN hL3 HR2 HA2 HK2
    have HN:=vQ (fg 65 (by omega) L3 A R w3 HRd3.out)
    obtain⟨m3,hm3⟩:∃m,m=Fr.nb 65 L3:=⟨_,rfl⟩
    rw[<-hm3] at HN HR3
    clear hm3
    go_wp2_with fail
    refine HN.out.mono ?_
    intro e w4 hh
    cases m3 with
    |error er=>
     have HRe:Hid (r=.error er):=HR3.out
     obtain⟨he,ha⟩:=hh.bad
     subst he
     have HA:=vQ (HA3.out.trans ha (fun _ _ h=>h))
     clear hh ha HN
     go_wp2
     rw[HRe.out]
     exact⟨rfl,rfl,HA.out⟩
    |ok nk=>
     obtain⟨t,k3⟩:=nk
     obtain⟨v,he,hv,hrd,ha⟩:=hh.good
     replace hv:v=.int .i64 (t:Nat):=hv
     subst hv
     subst he
     have HA4:=vQ (HA3.out.trans ha (fun _ _ h=>h))
     have HK4:Hid (w4.1[w.1.size]?=some (.cells #[.int .i64 0,.int .i64 0,.int .i64 0,.int .i64 0,.slice none 0 0] 126 (0,0))):=(ha.block _ (by omega) (by omega)).trans HK3.out
     have hz4:w.1.size+1<=w4.1.size:=by have:=ha.size;omega
     have HR4:=vQ (show r=_ from HR3.out)
     dsimp only[am] at HR4
     obtain⟨L4,hL4⟩:∃L,L=L3.drop k3:=⟨_,rfl⟩
     rw[<-hL4] at HR4 hrd
     have HRd4:=vQ hrd
     clear hh ha hrd HN hL4 HR3 HA3 HK3
     obtain⟨p1,c1,hb1,hat1,hc1,-⟩:=HRd4.out.out
     have r0:w4.cell? ⟨R,0,none⟩=some (.slice p1 L4.length c1):=aa hb1 0
     have hsm:=HRd4.out.small
     have HAt:=vQ hat1
     clear hb1 hat1 hc1
     by_cases h1:t<1
     ·have HRe:Hid (r=.error 5):=HR4.out.trans (if_pos h1)
      have h0:t=0:=by omega
      subst h0
      clear HR4 h1
      go_wp2_with fail
      refine(fh _ 5 _).mono ?_
      rintro e w5 ⟨rfl,hw5⟩
      rw[hw5]
      clear hw5 w5
      go_wp2
      rw[HRe.out]
      exact⟨rfl,rfl,HA4.out⟩
     ·have HRo:Hid (r=.ok (uR n q f t L4)):=HR4.out.trans (if_neg h1)
      have g1:0<t:=by omega
      have g2:decide (0<t)=true:=decide_eq_true g1
      have HC:=vQ (t8 p1 c1 L4 (by omega) w4 HAt.out)
      clear HR4 h1
      go_wp2_with fail
      refine(gC _ 5 _).mono ?_
      rintro e w5 ⟨rfl,hw5⟩
      rw[hw5]
      clear hw5 w5
      go_wp2_with fail
      refine HC.out.mono ?_
      rintro e w5 ⟨q5,cap5,rfl,hh,hb⟩
      have hK5:w5.1[w.1.size]?=some (.cells #[.int .i64 0,.int .i64 0,.int .i64 0,.int .i64 0,.slice none 0 0] 126 (0,0)):=(hb.block _ (by omega)).trans HK4.out
      have HK5:=vQ hK5
      have x0:w5.cell? ⟨w.1.size,0,none⟩=some (.int .i64 0):=aa hK5 0
      have x1:w5.cell? ⟨w.1.size,1,none⟩=some (.int .i64 0):=aa hK5 1
      have x2:w5.cell? ⟨w.1.size,2,none⟩=some (.int .i64 0):=aa hK5 2
      have x3:w5.cell? ⟨w.1.size,3,none⟩=some (.int .i64 0):=aa hK5 3
      have x4:w5.cell? ⟨w.1.size,4,none⟩=some (.slice none 0 0):=aa hK5 4
      have xf0:=ac hK5 0
      have xf1:=ac hK5 1
      have xf2:=ac hK5 2
      have xf3:=ac hK5 3
      have xf4:=ac hK5 4
      have HH:=vQ hh
      have HA5:=vQ (HA4.out.trans (ae hb (fun i=>i=R)) (fun _ _ h=>h))
      clear hK5 hh hb HC
      go_wp2
      have b0:(w5.setCell ⟨w.1.size,0,none⟩ (.int .i64 n)).1[w.1.size]?=some (.cells #[.int .i64 n,.int .i64 0,.int .i64 0,.int .i64 0,.slice none 0 0] 126 (0,0)):=ap HK5.out 0 _
      have b1:((w5.setCell ⟨w.1.size,0,none⟩ (.int .i64 n)).setCell ⟨w.1.size,1,none⟩ (.int .i64 q)).1[w.1.size]?=some (.cells #[.int .i64 n,.int .i64 q,.int .i64 0,.int .i64 0,.slice none 0 0] 126 (0,0)):=ap b0 1 _
      have b2:(((w5.setCell ⟨w.1.size,0,none⟩ (.int .i64 n)).setCell ⟨w.1.size,1,none⟩ (.int .i64 q)).setCell ⟨w.1.size,2,none⟩ (.int .i64 f)).1[w.1.size]?=some (.cells #[.int .i64 n,.int .i64 q,.int .i64 f,.int .i64 0,.slice none 0 0] 126 (0,0)):=ap b1 2 _
      have b3:((((w5.setCell ⟨w.1.size,0,none⟩ (.int .i64 n)).setCell ⟨w.1.size,1,none⟩ (.int .i64 q)).setCell ⟨w.1.size,2,none⟩ (.int .i64 f)).setCell ⟨w.1.size,3,none⟩ (.int .i64 t)).1[w.1.size]?=some (.cells #[.int .i64 n,.int .i64 q,.int .i64 f,.int .i64 t,.slice none 0 0] 126 (0,0)):=ap b2 3 _
      have b4:(((((w5.setCell ⟨w.1.size,0,none⟩ (.int .i64 n)).setCell ⟨w.1.size,1,none⟩ (.int .i64 q)).setCell ⟨w.1.size,2,none⟩ (.int .i64 f)).setCell ⟨w.1.size,3,none⟩ (.int .i64 t)).setCell ⟨w.1.size,4,none⟩ (.slice q5 L4.length cap5)).1[w.1.size]?=some (.cells #[.int .i64 n,.int .i64 q,.int .i64 f,.int .i64 t,.slice q5 L4.length cap5] 126 (0,0)):=ap b3 4 _
      have HKf:=vQ b4
      have hAf:Aside (fun i=>i=w.1.size) w5 (((((w5.setCell ⟨w.1.size,0,none⟩ (.int .i64 n)).setCell ⟨w.1.size,1,none⟩ (.int .i64 q)).setCell ⟨w.1.size,2,none⟩ (.int .i64 f)).setCell ⟨w.1.size,3,none⟩ (.int .i64 t)).setCell ⟨w.1.size,4,none⟩ (.slice q5 L4.length cap5)):=((((af w5 w.1.size 0 _).trans (af _ w.1.size 1 _) (fun _ _ h=>h)).trans (af _ w.1.size 2 _) (fun _ _ h=>h)).trans (af _ w.1.size 3 _) (fun _ _ h=>h)).trans (af _ w.1.size 4 _) (fun _ _ h=>h)
      refine bodyPost_ret (v:=.agg #[.int .i64 n,.int .i64 q,.int .i64 f,.int .i64 t,.slice q5 L4.length cap5]) (results_cell_row rfl _ _ w.1.size _ _ _ _ rfl HKf.out Tryz.underlying126 rfl (by kernel_rfl)) rfl ?_
      rw[HRo.out]
      refine⟨_,rfl,⟨q5,cap5,rfl,?_⟩,?_⟩
      ·exact(HH.out.aside hAf (fun k hk hc=>by have:=(HH.out.lt k hk).1;omega)).lower (by omega)
      ·exact HA5.out.trans hAf (fun i hi h=>by omega)
end
end Go.Proofs.YtlgfdgdlaahpfaaGreatDoor
