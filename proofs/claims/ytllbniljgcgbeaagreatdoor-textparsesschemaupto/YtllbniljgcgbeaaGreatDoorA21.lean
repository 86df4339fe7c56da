import Derived.Test.YtllbniljgcgbeaaGreatDoorA9
import Derived.Test.YtllbniljgcgbeaaGreatDoorK21Z
import Derived.Test.YtllbniljgcgbeaaGreatDoorB08
set_option maxRecDepth 100000
set_option maxHeartbeats 8000000
namespace Go.Proofs.YtllbniljgcgbeaaGreatDoor
section
open Go.RowKit
attribute [local go_sem] ah
def lg(w w':World)(p:OA)(c:Nat):Prop:=(p=none∧c=0)∨∃(g off:Nat) (C:AV) (T:TypeId),p=some ⟨g,off,none⟩∧w.1.size<=g∧w'.1[g]?=some (.cells C T (0,0))∧off+c*5<=C.size∧c<=maxLen
theorem lg.on{w w' w'':World}{p:OA}{c:Nat}(h:lg w w' p c)(hb:Below w'.1.size w' w''):lg w w'' p c:=by
 rcases h with h | ⟨g,off,C,T,h1,h2,h3,h4,h5⟩
 ·exact .inl h
 ·exact .inr ⟨g,off,C,T,h1,h2,ay h3 hb (ae h3),h4,h5⟩
theorem lg.up{w w0 w':World}{p:OA}{c:Nat}(h:lg w w' p c)(hs:w0.1.size<=w.1.size):lg w0 w' p c:=by
 rcases h with h | ⟨g,off,C,T,h1,h2,h3,h4,h5⟩
 ·exact .inl h
 ·exact .inr ⟨g,off,C,T,h1,by omega,h3,h4,h5⟩
theorem aG.room{w w':World}{F:Nat->Prop}{k i:Int}{b:Nat}{t:ByteArray}{p:OA}{n c:Nat}{x:V}(h:aG w' F (cells5 k i b t p n c) x)(hF:∀j,F j->w.1.size<=j):lg w w' p c:=by
 rcases h.inv with ⟨k0,i0,b0,t0,hu,hx⟩ | ⟨k0,i0,b0,t0,g,off,c0,xs,us,Fs,hu,hx,s⟩
 ·unfold cells5 at hu
  simp at hu
  exact .inl ⟨hu.2.2.2.2.1,hu.2.2.2.2.2.2⟩
 ·unfold cells5 at hu
  simp at hu
  obtain⟨C,T,h1,h2,h3⟩:=s.room
  refine .inr ⟨g,off,C,T,hu.2.2.2.2.1,hF g s.hg,h1,?_,?_⟩
  ·rw[hu.2.2.2.2.2.2];exact h2
  ·rw[hu.2.2.2.2.2.2];exact h3
structure Spo(w wr:World)(p:OA)(c:Nat):Prop where
 below:Below w.1.size w wr
 room:lg w wr p c
end
section
open Go.RowKit
attribute [local go_sem] ah
def dR(w w':World)(p:OA)(n:Nat):Prop:=n=0∨∃(g:Nat) (C:AV) (T:TypeId),p=some ⟨g,0,none⟩∧w.1.size<=g∧w'.1[g]?=some (.cells C T (0,0))∧n*9<=C.size
theorem dR.on{w w' w'':World}{p:OA}{n:Nat}(h:dR w w' p n)(hb:Below w'.1.size w' w''):dR w w'' p n:=by
 rcases h with h | ⟨g,C,T,h1,h2,h3,h4⟩
 ·exact .inl h
 ·exact .inr ⟨g,C,T,h1,h2,ay h3 hb (ae h3),h4⟩
theorem dR.up{w w0 w':World}{p:OA}{n:Nat}(h:dR w w' p n)(hs:w0.1.size<=w.1.size):dR w0 w' p n:=by
 rcases h with h | ⟨g,C,T,h1,h2,h3,h4⟩
 ·exact .inl h
 ·exact .inr ⟨g,C,T,h1,by omega,h3,h4⟩
theorem aC.roomy{w w':World}{p:OA}{n c:Nat}{us:Nat->AV}{Fs:Nat->Nat->Prop}{xs:List Col}(h:aC w' w.1.size (.slice p n c) n us Fs xs):dR w w' p n:=by
 rcases h.row.2 with ⟨-,h1⟩ | ⟨g,cap,cur,h1,h2,h3,h4,h5,h6,-⟩
 ·exact .inl h1
 ·injection h1 with e1 e2 e3
  exact .inr ⟨g,cur,_,e1,h2,h3,by rw[h6];omega⟩
theorem j6{rf:Tx.Bs->Option Nat}(hRf:bP rf)(S:ByteArray)(hS:S.size<=1099511627776)(w:World)(hv:Hv w):Calls Tryz.prog 7 #[.string S] w fun e w'=>∃q c,e=.returned (.tuple #[.agg #[.slice q (aY [] (aA S (Tx.pseq (Tx.pcol rf) (S.data.toList.length+1) S.data.toList) Sch.err)).length c],.int .i64 (ei (aA S (Tx.pseq (Tx.pcol rf) (S.data.toList.length+1) S.data.toList) Sch.err):Nat),.int .i64 (ik (aA S (Tx.pseq (Tx.pcol rf) (S.data.toList.length+1) S.data.toList) Sch.err):Nat)])∧bA w' q (aY [] (aA S (Tx.pseq (Tx.pcol rf) (S.data.toList.length+1) S.data.toList) Sch.err))∧(aY [] (aA S (Tx.pseq (Tx.pcol rf) (S.data.toList.length+1) S.data.toList) Sch.err)).length*120<=140737488351232∧Below w.1.size w w'∧dR w w' q (aY [] (aA S (Tx.pseq (Tx.pcol rf) (S.data.toList.length+1) S.data.toList) Sch.err)).length:=by
 refine(fe hRf S hS w hv).mono ?_
 intro e w' h
 generalize aA S (Tx.pseq (Tx.pcol rf) (S.data.toList.length+1) S.data.toList) Sch.err=R at h ⊢
 match R,h with
 |.error (k,a),⟨he,hb⟩=>exact⟨none,0,he,fun j hj=>by simp[aY] at hj,by simp[aY],hb,.inl rfl⟩
 |.ok x,⟨u,he,⟨q,c,hu,⟨us,Fs,hk⟩,hl⟩,hb⟩=>
  injection hu with hu
  subst hu
  exact⟨q,c,he,bV hk (by omega),by show x.length*120<=_;omega,hb,hk.roomy⟩
theorem eu(S:ByteArray)(hS:S.size<=1099511627776)(w:World)(hv:Hv w):
  Calls Tryz.prog 3 #[.string S] w fun e w'=>e=.returned (.bool true)∧Below w.1.size w w':=by
 obtain⟨rf,hRf⟩:=rA
 have HHv:=tQ (fun w' (hb:Below w.1.size w w')=>hv.on hb hv.size)
 have HLv:=tQ (rY w hv)
 have HP:=tQ (fun w' (hb:Below w.1.size w w')=>j6 hRf S hS w' (HHv.out w' hb))
 have HQ:=tQ (fun w'=>fl hRf S hS w')
 obtain⟨T,hT⟩:∃T,T=aA S (Tx.pseq (Tx.pcol rf) (S.data.toList.length+1) S.data.toList) Sch.err:=⟨_,rfl⟩
 unfold bm at HQ
 rw[<-hT] at HP HQ
 obtain⟨er,her⟩:∃e,e=ei T:=⟨_,rfl⟩
 obtain⟨pl,hpl⟩:∃e,e=ik T:=⟨_,rfl⟩
 obtain⟨x,hx⟩:∃x,x=aY [] T:=⟨_,rfl⟩
 rw[<-her,<-hpl,<-hx] at HP HQ
 have HS:=tQ (fun w' p q c d (h1:bA w' p x) (h2:bA w' q x) (hl:x.length*120<=140737488351232)=>nr x x p q c d w' hl h1 h2)
 rw[(Sch.same_fix x x).2 rfl] at HS
 obtain⟨n,hn⟩:∃n,n=x.length:=⟨_,rfl⟩
 rw[<-hn] at HP HQ HS
 clear hT her hpl hx hv hS hRf hn
 go_enter Tryz.func3,Tryz.ntmps3
 go_wp2_with fail
 refine HLv.out.mono ?_
 rintro e w1 ⟨rfl,hb⟩
 have HB1:=tQ hb
 clear hb HLv
 go_wp2_with fail
 go_loopw [12] (fun v wr=>∃j:Nat,j<=2∧v=.int .i64 (j:Nat)∧Hid (Below w.1.size w wr)) (fun v _=>2-(intOf v).toNat)
 case atStart=>exact⟨0,by omega,rfl,HB1⟩
 case round=>
  obtain⟨j,hj,rfl,HB⟩:=hrel
  by_cases hj2:j<2
  ·have g1:(j:Int)<2:=by omega
   have HX:=tQ (HP.out wr HB.out)
   clear HB1
   go_wp2_with fail
   refine HX.out.mono ?_
   rintro e w2 ⟨p,c,rfl,hl,hln,hb,hroom⟩
   obtain⟨W2,hW⟩:∃W,W=w2.alloc (.cells #[.slice p n c] 25):=⟨_,rfl⟩
   have hbw:Below w2.1.size w2 W2:=by rw[hW];exact tY
   have HK:=tQ (show W2.1[w2.1.size]?=some (.cells #[.slice p n c] 25 (0,0)) by rw[hW];exact aj w2 _)
   have HB2:=tQ (HB.out.trans ((hb.trans (hbw.mono hb.size)).mono HB.out.size))
   have HL:=tQ (hl.on hbw)
   have HLn:=tQ hln
   have HNn:Hid (n*120<=140737488351232):=by show _<=_;exact hln
   have HRm:=tQ ((hroom.on hbw).up HB.out.size)
   have HGl:Hid (n=0∨∃g,p=some ⟨g,0,none⟩∧g<w2.1.size):=by
    rcases hroom with h | ⟨g,C,T,h1,h2,h3,h4⟩
    ·exact .inl h
    ·exact .inr ⟨g,h1,ae h3⟩
   have HW:=tQ hW
   have HY:=tQ (HQ.out W2)
   clear hl hln hb hbw hW HX HB hroom
   go_wp2_with fail
   rw[<-HW.out]
   refine HY.out.mono ?_
   rintro e w3 ⟨p3,c3,rfl,hl3,-,hb3⟩
   obtain⟨W3,hW3⟩:∃W,W=w3.alloc (.cells #[.slice p3 n c3] 25):=⟨_,rfl⟩
   have hbw:Below w3.1.size w3 W3:=by rw[hW3];exact tY
   have hk3:W3.1[w3.1.size]?=some (.cells #[.slice p3 n c3] 25 (0,0)):=by rw[hW3];exact aj w3 _
   have hk2:=ay (ay HK.out hb3 (ae HK.out)) hbw (by have:=ae HK.out;have:=hb3.size;omega)
   have hb4:=hb3.trans (hbw.mono hb3.size)
   have m0:W3.cell? ⟨w2.1.size,0,none⟩=some (.slice p n c):=ab hk2 0
   have nn0:W3.cell? ⟨w3.1.size,0,none⟩=some (.slice p3 n c3):=ab hk3 0
   have HZ:=tQ (HS.out W3 p p3 c c3 (HL.out.on hb4) (hl3.on hbw) HLn.out)
   have HB3:=tQ (HB2.out.trans (hb4.mono HB2.out.size))
   have HRm3:=tQ (HRm.out.on hb4)
   have HK2:=tQ hk2
   have HW3:=tQ hW3
   rw[hW3] at m0 nn0
   clear hl3 hb3 hbw hk3 hk2 hb4 hW3 HY HW HB2 HRm HL HK
   go_wp2_with fail
   rw[<-HW3.out]
   refine HZ.out.mono ?_
   rintro e w4 ⟨rfl,hb⟩
   have hk4:=ay HK2.out hb (ae HK2.out)
   have y0:w4.cell? ⟨w2.1.size,0,none⟩=some (.slice p n c):=ab hk4 0
   have hnb:n*120<=140737488351232:=HNn.out
   have HSp:Hid (Below w.1.size w w4∧dR w w4 p n∧w4.1[w2.1.size]?=some (.cells #[.slice p n c] 25 (0,0))):=⟨HB3.out.trans (hb.mono HB3.out.size),HRm3.out.on hb,hk4⟩
   have HNb:=tQ hnb
   clear hb HZ hk4 HK2 HB3 HRm3 HW3 m0 nn0 hnb HLn
   go_wp2
   go_loopw [43] (fun v wr=>∃m:Nat,m<=n∧v=.int .i64 (m:Nat)∧Hid (Below w.1.size w wr∧dR w wr p n∧wr.1[w2.1.size]?=some (.cells #[.slice p n c] 25 (0,0)))) (fun v _=>n-(intOf v).toNat)
   case atStart=>exact⟨0,by omega,rfl,HSp⟩
   case round=>
    obtain⟨m,hm,rfl,HR⟩:=hrel
    by_cases hmc:m<n
    ·obtain⟨hb0,hr0,hk0⟩:=HR.out
     have y0:wr.cell? ⟨w2.1.size,0,none⟩=some (.slice p n c):=ab hk0 0
     rcases hr0 with h0 | ⟨g,C,Tb,hp,hg,hbk,hl⟩
     ·omega
     rcases HGl.out with h0 | ⟨g',hp',hg'⟩
     ·omega
     subst hp
     injection hp' with hp'
     injection hp' with hp'
     subst hp'
     have f1:(m:Int)<(n:Int):=by omega
     have hlt:m*9<C.size:=by omega
     have a0:wr.cell? ⟨g,m*9,none⟩=some C[m*9]:=by rw[ab hbk];exact Array.getElem?_eq_getElem hlt
     have b0:=ac hbk (m*9)
     have hne:¬g=w2.1.size:=by omega
     have hne2:¬w2.1.size=g:=by omega
     have HNx:Hid (Below w.1.size w (wr.setCell ⟨g,m*9,none⟩ (.string ⟨#[122,122]⟩))∧dR w (wr.setCell ⟨g,m*9,none⟩ (.string ⟨#[122,122]⟩)) (some ⟨g,0,none⟩) n∧(wr.setCell ⟨g,m*9,none⟩ (.string ⟨#[122,122]⟩)).1[w2.1.size]?=some (.cells #[.slice (some ⟨g,0,none⟩) n c] 25 (0,0))) :=
      ⟨hb0.setCell hg _,.inr ⟨g,_,Tb,rfl,hg,ai hbk _ _,by simpa using hl⟩,dP hk0 _ _ hne2⟩
     have f2:(m:Int)+1<=140737488351232:=by have:=HNb.out;omega
     clear hb0 hk0 hg hbk hl HR HSp hg'
     go_wp2
     go_roundw
     case rel=>exact⟨m+1,by omega,by go_num,HNx⟩
     case measure=>simp[intOf];omega
    ·have f1:¬(m:Int)<(n:Int):=by omega
     have HBq:=tQ HR.out.1
     clear HR HSp
     go_wp2
     go_roundw
     case rel=>exact⟨j+1,by omega,by go_num,HBq⟩
     case measure=>simp[intOf];omega
  ·have g1:¬(j:Int)<2:=by omega
   clear HP HQ HS HB1
   go_wp2
   go_ret
   exact⟨rfl,HB.out⟩
end
end Go.Proofs.YtllbniljgcgbeaaGreatDoor
