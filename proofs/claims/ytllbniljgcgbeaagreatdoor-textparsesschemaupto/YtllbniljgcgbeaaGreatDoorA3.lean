import Derived.Test.YtllbniljgcgbeaaGreatDoorA2
set_option maxRecDepth 100000
set_option maxHeartbeats 4000000
namespace Go.Proofs.YtllbniljgcgbeaaGreatDoor
section
open Go.RowKit
def rdC(S:ByteArray)(a e s:Int):AV:=#[.string S,.int .i64 a,.int .i64 e,.int .i64 s]
structure an(w:World)(R:Nat)(S:ByteArray)(l:Tx.Bs):Prop where
 lies:w.1[R]?=some (.cells (rdC S ((S.size-l.length:Nat):Int) 0 0) 61)
 suf:S.data.toList.drop (S.size-l.length)=l
 le:l.length<=S.size
 small:S.size<=140737488351232
structure ap(w:World)(R:Nat)(S:ByteArray)(e n:Nat):Prop where
 lies:∃a:Nat,a<=S.size∧w.1[R]?=some (.cells (rdC S (a:Int) (e:Int) ((S.size-n:Nat):Int)) 61)
 bad:e≠0
 small:S.size<=140737488351232
def rM(w:World)(R:Nat)(S:ByteArray):Tx.R Tx.Bs->Prop
 |.ok r=>an w R S r
 |.error (e,n)=>ap w R S e n
section
variable {w w':World} {R:Nat} {S:ByteArray} {l:Tx.Bs}
theorem an.lt(h:an w R S l):R<w.1.size:=(Array.getElem?_eq_some_iff.1 h.lies).1
theorem an.on(h:an w R S l)(hb:Below w.1.size w w'):an w' R S l:=⟨(hb.block R h.lt).trans h.lies,h.suf,h.le,h.small⟩
theorem an.aside{F:Nat->Prop}(h:an w R S l)(ha:Aside F w w')(hF:¬F R):an w' R S l:=⟨(ha.block R h.lt hF).trans h.lies,h.suf,h.le,h.small⟩
theorem an.cell(h:an w R S l)(i:Nat):w.cell? ⟨R,i,none⟩=(rdC S ((S.size-l.length:Nat):Int) 0 0)[i]?:=by
 unfold World.cell?
 rw[h.lies]
 rfl
theorem an.thawed(h:an w R S l)(i:Nat):w.frozen? ⟨R,i,none⟩=false:=by simp[World.frozen?,h.lies]
theorem an.head{c:UInt8}{r:Tx.Bs}(h:an w R S (c::r)):∃hlt:S.size-(c::r).length<S.size,S[S.size-(c::r).length]'hlt=c:=by
 have hle:=h.le
 simp only[List.length_cons] at hle
 have hlt:S.size-(c::r).length<S.size:=by simp only[List.length_cons];omega
 refine⟨hlt,?_⟩
 have h1:=congrArg List.head? h.suf
 rw[List.head?_drop,List.head?_cons] at h1
 obtain⟨h2,h3⟩:=List.getElem?_eq_some_iff.1 h1
 rw[<-h3]
 simp[ByteArray.getElem_eq_getElem_data]
theorem an.next{c:UInt8}{r:Tx.Bs}(h:an w R S (c::r))(hl:w'.1[R]?=some (.cells (rdC S ((S.size-r.length:Nat):Int) 0 0) 61)):an w' R S r:=by
 have hle:=h.le
 simp only[List.length_cons] at hle
 refine⟨hl,?_,by omega,h.small⟩
 have h1:=congrArg List.tail h.suf
 rw[List.tail_cons,List.tail_drop] at h1
 have e:S.size-r.length=S.size-(c::r).length+1:=by simp only[List.length_cons];omega
 rw[e]
 exact h1
theorem aP(h:an w R S l)(e n:Nat)(he:e≠0):Calls Tryz.prog 24 #[.pointer (some ⟨R,0,none⟩),.int .i64 (e:Nat),.int .i64 ((S.size-n:Nat):Int)] w fun r w'=>r=.returned (.tuple #[])∧ap w' R S e n∧Aside (fun k=>k=R) w w':=by
 have c2:w.cell? ⟨R,2,none⟩=some (.int .i64 0):=h.cell 2
 have c3:w.cell? ⟨R,3,none⟩=some (.int .i64 0):=h.cell 3
 have t2:=h.thawed 2
 have t3:=h.thawed 3
 have hF:ap ((w.setCell ⟨R,2,none⟩ (.int .i64 (e:Nat))).setCell ⟨R,3,none⟩ (.int .i64 ((S.size-n:Nat):Int))) R S e n:=by
  refine⟨⟨S.size-l.length,Nat.sub_le _ _,?_⟩,he,h.small⟩
  simp only[World.setCell,Array.getElem?_modify,h.lies,if_true,Option.map_some]
  rfl
 have hA:Aside (fun k=>k=R) w ((w.setCell ⟨R,2,none⟩ (.int .i64 (e:Nat))).setCell ⟨R,3,none⟩ (.int .i64 ((S.size-n:Nat):Int))):=((Aside.refl (fun k=>k=R) w).setCell (p:=⟨R,2,none⟩) (.inl rfl) _).setCell (p:=⟨R,3,none⟩) (.inl rfl) _
 obtain⟨sp,hsp⟩:∃sp:Int,sp=((S.size-n:Nat):Int):=⟨_,rfl⟩
 rw[<-hsp] at hF hA ⊢
 have HF:=tQ hF
 have HA:=tQ hA
 clear h hF hA hsp
 go_enter Tryz.func24,Tryz.ntmps24
 go_wp2
 go_end0
 exact⟨rfl,HF.out,HA.out⟩
theorem eP(h:an w R S l)(c:UInt8):Calls Tryz.prog 27 #[.pointer (some ⟨R,0,none⟩),.int .u8 (c.toNat:Int)] w fun r w'=>r=.returned (.bool (decide (l.head?=some c)))∧∃n,w'=w.drewN n:=by
 have c0:w.cell? ⟨R,0,none⟩=some (.string S):=h.cell 0
 have c1:w.cell? ⟨R,1,none⟩=some (.int .i64 ((S.size-l.length:Nat):Int)):=h.cell 1
 have hsm:=h.small
 cases l with
 |nil=>
  obtain⟨a,ha⟩:∃a,a=S.size-([]:Tx.Bs).length:=⟨_,rfl⟩
  rw[<-ha] at c1
  have f1:¬(a:Int)<(S.size:Int):=by rw[ha];simp
  have f2:decide ((a:Int)<(S.size:Int))=false:=decide_eq_false f1
  have f3:decide (a<S.size)=false:=decide_eq_false (by omega)
  have f4:¬a<S.size:=by omega
  clear h ha
  go_enter Tryz.func27,Tryz.ntmps27
  go_wp2_with fail
  go_quiet (fail)
  go_wp2
  go_ret
  exact⟨rfl,_,rfl⟩
 |cons d r=>
  obtain⟨hlt,hd⟩:=h.head
  obtain⟨a,ha⟩:∃a,S.size-(d::r).length=a:=⟨_,rfl⟩
  have hd2:∃hlt:a<S.size,S[a]'hlt=d:=by subst ha;exact⟨hlt,hd⟩
  rw[ha] at c1
  clear hlt hd h ha
  obtain⟨hlt,hd⟩:=hd2
  have f1:(a:Int)<(S.size:Int):=by omega
  have HE:Hid (decide ((d::r).head?=some c)=((d.toNat:Int)==(c.toNat:Int))):=by
   show _=_
   rw[eqb,List.head?_cons]
   exact decide_eq_decide.2 ⟨fun h=>by injection h,fun h=>by rw[h]⟩
  go_enter Tryz.func27,Tryz.ntmps27
  go_wp2_with fail
  go_quiet (fail)
  go_wp2
  go_ret
  rw[HE.out]
  exact⟨rfl,_,rfl⟩
end
end
section
open Go.RowKit
theorem am(F:Nat->Prop)(w:World)(n:Nat):Aside F w (w.drewN n):=⟨rfl,rfl,rfl,tX,fun _ _ _=>rfl⟩
theorem an.drewN{w:World}{R:Nat}{S:ByteArray}{l:Tx.Bs}(h:an w R S l)(n:Nat):an (w.drewN n) R S l:=⟨h.lies,h.suf,h.le,h.small⟩
section
variable {w w':World} {R:Nat} {S:ByteArray} {l:Tx.Bs}
theorem bb(h:an w R S l)(M:ByteArray)(hM:M.size<=10):Calls Tryz.prog 25 #[.pointer (some ⟨R,0,none⟩),.string M] w fun r w'=>r=.returned (.tuple #[])∧rM w' R S (Tx.must M.data.toList l)∧Aside (fun k=>k=R) w w':=by
 have HR:=tQ h
 have hml:M.data.toList.length=M.size:=by show M.data.toList.length=M.data.size;simp
 obtain⟨m,hm⟩:∃m,m=M.data.toList:=⟨_,rfl⟩
 rw[<-hm] at hml ⊢
 have HMm:=tQ hm
 obtain⟨X,hX⟩:∃X,X=Tx.must m l:=⟨_,rfl⟩
 rw[<-hX]
 have HX:=tQ hX
 clear h hm hX
 go_enter Tryz.func25,Tryz.ntmps25
 go_wp2_with fail
 go_loopw [4] (fun v4 wr=>∃(i:Nat) (l':Tx.Bs),i<=M.size∧v4=.int .i64 (i:Nat)∧Hid (an wr R S l')∧Hid (Tx.must (m.drop i) l'=X)∧Hid (Aside (fun k=>k=R) w wr)) (fun v4 _=>M.size-(intOf v4).toNat)
 case atStart=>exact⟨0,l,Nat.zero_le _,rfl,HR,(by show Tx.must (m.drop 0) l=X;rw[List.drop_zero];exact HX.out.symm),Aside.refl _ _⟩
 case round=>
  obtain⟨i,l',hi,rfl,HD,HM,HA⟩:=hrel
  have hiI:(i:Int)<=10:=by omega
  have c0:wr.cell? ⟨R,0,none⟩=some (.string S):=HD.out.cell 0
  have c1:wr.cell? ⟨R,1,none⟩=some (.int .i64 ((S.size-l'.length:Nat):Int)):=HD.out.cell 1
  have c2:wr.cell? ⟨R,2,none⟩=some (.int .i64 0):=HD.out.cell 2
  have t1:=HD.out.thawed 1
  have hsm:=HD.out.small
  have hle:=HD.out.le
  obtain⟨a,ha⟩:∃a,S.size-l'.length=a:=⟨_,rfl⟩
  rw[ha] at c1
  by_cases hlt:i<M.size
  case neg=>
   have f1:¬(i:Int)<(M.size:Int):=by omega
   have HXe:Hid (X=.ok l'):=by
    show X=_
    rw[<-HM.out,List.drop_eq_nil_of_le (by omega)]
    rfl
   go_wp2
   go_end0
   rw[HXe.out]
   exact⟨rfl,HD.out,HA.out⟩
  have f1:(i:Int)<(M.size:Int):=by omega
  have hdm:m.drop i=m[i]'(by omega)::m.drop (i+1):=List.drop_eq_getElem_cons (by omega)
  have hmi:M[i]'hlt=m[i]'(by omega):=by
   simp only[HMm.out]
   rfl
  obtain⟨x,hx⟩:∃x,x=m[i]'(by omega):=⟨_,rfl⟩
  rw[<-hx] at hdm hmi
  rw[hdm] at HM
  clear hx hdm
  cases l' with
  |nil=>
   have hs:a=S.size:=by rw[<-ha];simp
   have HXe:Hid (X=.error (5,0)):=by show X=_;rw[<-HM.out];rfl
   have e1:((a:Int)==(S.size:Int))=true:=by rw[hs];exact beq_self_eq_true _
   have HF:Hid (∀k,Calls Tryz.prog 24 #[.pointer (some ⟨R,0,none⟩),.int .i64 5,.int .i64 (a:Int)] (wr.drewN k) fun r w'=>r=.returned (.tuple #[])∧ap w' R S 5 0∧Aside (fun k=>k=R) w w'):=fun k=>by
    have e2:((S.size-0:Nat):Int)=(a:Int):=by omega
    have:=aP (HD.out.drewN k) 5 0 (by decide)
    rw[e2] at this
    exact this.mono fun r w' ⟨q1,q2,q3⟩=>⟨q1,q2,(HA.out.trans (am _ wr k) (fun _ _ h=>h)).trans q3 (fun _ _ h=>h)⟩
   clear HD HM ha hs HA
   go_wp2_with fail
   go_quiet (fail)
   go_wp2_with fail
   refine(HF.out _).mono ?_
   rintro e w1 ⟨rfl,hb1,ha1⟩
   have HB1:=tQ hb1
   have HA1:=tQ ha1
   clear hb1 ha1 HF
   go_wp2
   refine bodyPost_ret (results_none rfl _ _ _) rfl ?_
   rw[HXe.out]
   exact⟨rfl,HB1.out,HA1.out⟩
  |cons d r=>
   obtain⟨hq1,hq2⟩:=HD.out.head
   have hq3:∃hlt:a<S.size,S[a]'hlt=d:=by subst ha;exact⟨hq1,hq2⟩
   clear hq1 hq2
   obtain⟨hal,had⟩:=hq3
   have e1:((a:Int)==(S.size:Int))=false:=by rw[beq_eq_false_iff_ne];omega
   have e1n:(a==S.size)=false:=by rw[beq_eq_false_iff_ne];omega
   have haS:(a:Int)<(S.size:Int):=by omega
   by_cases hdx:d=x
   ·have e3:((d.toNat:Int) != (x.toNat:Int))=false:=by rw[hdx];simp
    have e4:((d.toNat:Int)==(x.toNat:Int))=true:=by rw[hdx];exact beq_self_eq_true _
    have HM2:Hid (Tx.must (m.drop (i+1)) r=X):=by
     show _=_
     rw[<-HM.out,hdx]
     show _=if x=x then _ else _
     rw[if_pos rfl]
    have HN:Hid (∀k,an ((wr.drewN k).setCell ⟨R,1,none⟩ (.int .i64 ((a:Int)+1))) R S r∧Aside (fun k=>k=R) w ((wr.drewN k).setCell ⟨R,1,none⟩ (.int .i64 ((a:Int)+1)))):=fun k=>by
     refine⟨(HD.out.drewN k).next ?_,(HA.out.trans (am _ wr k) (fun _ _ h=>h)).trans ((Aside.refl (fun k=>k=R) (wr.drewN k)).setCell (p:=⟨R,1,none⟩) (.inl rfl) _) (fun _ _ h=>h)⟩
     have e5:((S.size-r.length:Nat):Int)=(a:Int)+1:=by simp only[List.length_cons] at ha hle;omega
     rw[e5]
     simp only[World.setCell,Array.getElem?_modify,(HD.out.drewN k).lies,if_true,Option.map_some]
     rw[ha]
     rfl
    clear HD HM ha HA
    go_wp2_with fail
    go_quiet (fail)
    go_wp2
    go_roundw
    case rel=>exact⟨i+1,r,by omega,by go_num,(HN.out _).1,HM2,(HN.out _).2⟩
    case measure=>simp[intOf];omega
   ·have e3:((d.toNat:Int) != (x.toNat:Int))=true:=by rw[bne_iff_ne];intro hc;exact hdx (UInt8.toNat_inj.1 (by omega))
    have e4:((d.toNat:Int)==(x.toNat:Int))=false:=by rw[beq_eq_false_iff_ne];intro hc;exact hdx (UInt8.toNat_inj.1 (by omega))
    have HXe:Hid (X=.error (5,r.length+1)):=by
     show X=_
     rw[<-HM.out]
     show(if d=x then _ else _)=_
     rw[if_neg hdx]
    have HF:Hid (∀k,Calls Tryz.prog 24 #[.pointer (some ⟨R,0,none⟩),.int .i64 5,.int .i64 (a:Int)] (wr.drewN k) fun r' w'=>r'=.returned (.tuple #[])∧ap w' R S 5 (r.length+1)∧Aside (fun k=>k=R) w w'):=fun k=>by
     have e2:((S.size-(r.length+1):Nat):Int)=(a:Int):=by simp only[List.length_cons] at ha;omega
     have:=aP (HD.out.drewN k) 5 (r.length+1) (by decide)
     rw[e2] at this
     exact this.mono fun r w' ⟨q1,q2,q3⟩=>⟨q1,q2,(HA.out.trans (am _ wr k) (fun _ _ h=>h)).trans q3 (fun _ _ h=>h)⟩
    clear HD HM ha HA
    go_wp2_with fail
    go_quiet (fail)
    go_wp2_with fail
    refine(HF.out _).mono ?_
    rintro e w1 ⟨rfl,hb1,ha1⟩
    have HB1:=tQ hb1
    have HA1:=tQ ha1
    clear hb1 ha1 HF
    go_wp2
    refine bodyPost_ret (results_none rfl _ _ _) rfl ?_
    rw[HXe.out]
    exact⟨rfl,HB1.out,HA1.out⟩
end
end
section
open Go.RowKit
section
variable {w w':World} {R:Nat} {S:ByteArray} {l:Tx.Bs}
theorem ap.cell2{e n:Nat}(h:ap w R S e n):w.cell? ⟨R,2,none⟩=some (.int .i64 (e:Int)):=by
 obtain⟨a,_,h2⟩:=h.lies
 unfold World.cell?
 rw[h2]
 rfl
theorem bj{e n:Nat}(h:ap w R S e n)(M:ByteArray)(hM:M.size<=10):Calls Tryz.prog 25 #[.pointer (some ⟨R,0,none⟩),.string M] w fun r w'=>r=.returned (.tuple #[])∧w'=w:=by
 have c2:=h.cell2
 have he:=h.bad
 have b1:((e:Int)==0)=false:=by rw[beq_eq_false_iff_ne];omega
 have b2:(e==0)=false:=by rw[beq_eq_false_iff_ne];exact he
 clear h
 go_enter Tryz.func25,Tryz.ntmps25
 go_wp2_with fail
 go_loopw [4] (fun v4 wr=>v4=.int .i64 0∧wr=w) (fun _ _=>0)
 case atStart=>exact⟨rfl,rfl⟩
 case round=>
  obtain⟨rfl,hwr⟩:=hrel
  subst hwr
  by_cases hlt:0<M.size
  ·have f1:(0:Int)<(M.size:Int):=by omega
   go_wp2
   go_end0
   exact⟨rfl,rfl⟩
  ·have f1:¬(0:Int)<(M.size:Int):=by omega
   go_wp2
   go_end0
   exact⟨rfl,rfl⟩
end
end
section
open Go.RowKit
theorem iO(p:UInt8->Bool):∀(l:Tx.Bs) (j:Nat),j<=l.length->(∀c∈l.take j,p c=true)->(∀c,(l.drop j).head?=some c->p c=false)->l.takeWhile p=l.take j:=fun l j hj h1 h2=>by
 have h:=(Tx.span p (l.take j) (l.drop j) h1 h2).1
 rw[List.take_append_drop] at h
 exact h
theorem rK{S:ByteArray}{l:Tx.Bs}{a j:Nat}(hs:S.data.toList.drop a=l):S.extract a (a+j)=⟨(l.take j).toArray⟩:=by
 apply ByteArray.ext
 apply Array.toList_inj.1
 rw[<-hs]
 simp[ByteArray.data_extract,List.take_drop]
section
variable {w w':World} {R:Nat} {S:ByteArray} {l:Tx.Bs}
theorem dJ(h:an w R S l)(k:Nat)(hk:k<=3):Calls Tryz.prog 23 #[.pointer (some ⟨R,0,none⟩),.int .i64 (k:Nat)] w fun r w'=>r=.returned (.string ⟨(l.takeWhile (cH k)).toArray⟩)∧Below w.1.size w w':=by
 have HR:=tQ h
 have HW:=tQ (fun c w'=>kj c k hk w')
 have hsm:=h.small
 have hle:=h.le
 have c0:w.cell? ⟨R,0,none⟩=some (.string S):=h.cell 0
 have c1:w.cell? ⟨R,1,none⟩=some (.int .i64 ((S.size-l.length:Nat):Int)):=h.cell 1
 obtain⟨a,ha⟩:∃a,S.size-l.length=a:=⟨_,rfl⟩
 rw[ha] at c1
 have hsf:S.data.toList.drop a=l:=by rw[<-ha];exact h.suf
 have hal:a+l.length=S.size:=by omega
 have HS:=tQ hsf
 obtain⟨T,hT⟩:∃T,T=l.takeWhile (cH k):=⟨_,rfl⟩
 rw[<-hT]
 have HT:=tQ hT
 clear h ha hsf hT
 go_enter Tryz.func23,Tryz.ntmps23
 go_wp2_with fail
 go_loopw [5] (fun v5 wr=>wr=w∧∃j:Nat,j<=l.length∧v5=.int .i64 ((a+j:Nat):Int)∧Hid (∀c∈l.take j,cH k c=true)) (fun v5 _=>S.size-(intOf v5).toNat)
 case atStart=>exact⟨rfl,0,Nat.zero_le _,rfl,fun c hc=>by simp at hc⟩
 case round=>
  obtain⟨hwr,j,hj,rfl,HJ⟩:=hrel
  subst hwr
  by_cases hlt:j<l.length
  ·have f1:((a+j:Nat):Int)<(S.size:Int):=by omega
   have f2:a+j<S.size:=by omega
   have hcj:S[a+j]'f2=l[j]'hlt:=by
    have h1:(S.data.toList.drop a)[j]?=some (l[j]'hlt):=by rw[HS.out];exact List.getElem?_eq_getElem hlt
    rw[List.getElem?_drop] at h1
    obtain⟨h2,h3⟩:=List.getElem?_eq_some_iff.1 h1
    rw[<-h3]
    simp[ByteArray.getElem_eq_getElem_data]
   obtain⟨c,hc⟩:∃c,c=l[j]'hlt:=⟨_,rfl⟩
   rw[<-hc] at hcj
   have HWc:=tQ (HW.out c wr)
   have HC:=tQ hc
   obtain⟨n,hn⟩:∃n,n=a+j:=⟨_,rfl⟩
   have hcn:∃f:n<S.size,S[n]'f=c:=by subst hn;exact⟨f2,hcj⟩
   obtain⟨f3,hcn⟩:=hcn
   rw[<-hn] at f1 ⊢
   have HN:=tQ hn
   clear hcj hc f2 hn
   have fn:(n:Int)<=140737488351232:=by omega
   cases hin:cH k c with
   |true=>
    rw[hin] at HWc
    have HJ2:Hid (∀c∈l.take (j+1),cH k c=true):=fun x hx=>by
     rw[List.take_succ_eq_append_getElem hlt] at hx
     rcases List.mem_append.1 hx with hx | hx
     ·exact HJ.out x hx
     ·rw[List.mem_singleton] at hx
      rw[hx,<-HC.out];exact hin
    clear hin HJ
    go_wp2_with fail
    refine HWc.out.mono ?_
    rintro e w1 ⟨rfl,hw1⟩
    subst hw1
    go_wp2
    go_roundw
    case rel=>exact⟨trivial,j+1,by omega,by rw[HN.out];go_num,HJ2⟩
    case measure=>have:=HN.out;simp[intOf];omega
   |false=>
    rw[hin] at HWc
    have HE:Hid (T=l.take j):=by
     show T=_
     rw[HT.out]
     refine iO _ l j hj HJ.out fun x hx=>?_
     rw[List.head?_drop,List.getElem?_eq_getElem hlt] at hx
     injection hx with hx
     rw[<-hx,<-HC.out];exact hin
    clear hin HJ
    have b1:(a:Int)<=(n:Int):=by have:=HN.out;omega
    have b2:(n:Int)<=(S.size:Int):=by have:=HN.out;omega
    have b3:a<=n:=by omega
    have b4:n<=S.size:=by omega
    have HEx:Hid (S.extract a n=⟨T.toArray⟩):=by show _=_;rw[HE.out,HN.out];exact rK HS.out
    clear HE
    go_wp2_with fail
    refine HWc.out.mono ?_
    rintro e w1 ⟨rfl,hw1⟩
    subst hw1
    go_wp2_with fail
    go_quiet (fail)
    go_wp2
    go_ret
    rw[<-HEx.out]
    exact⟨rfl,am (fun _=>False) _ _ |>.below tX (fun _ _ h=>h.elim)⟩
  ·have f1:¬((a+j:Nat):Int)<(S.size:Int):=by omega
   have HE:Hid (T=l.take j):=by
    show T=_
    rw[HT.out]
    refine iO _ l j hj HJ.out fun x hx=>?_
    rw[List.head?_drop,List.getElem?_eq_none (by omega)] at hx
    cases hx
   obtain⟨n,hn⟩:∃n,n=a+j:=⟨_,rfl⟩
   rw[<-hn] at f1 ⊢
   have HN:=tQ hn
   clear hn HJ
   have b1:(a:Int)<=(n:Int):=by have:=HN.out;omega
   have b2:(n:Int)<=(S.size:Int):=by have:=HN.out;omega
   have b3:a<=n:=by omega
   have b4:n<=S.size:=by omega
   have HEx:Hid (S.extract a n=⟨T.toArray⟩):=by show _=_;rw[HE.out,HN.out];exact rK HS.out
   clear HE
   go_wp2_with fail
   go_quiet (fail)
   go_wp2
   go_ret
   rw[<-HEx.out]
   exact⟨rfl,am (fun _=>False) _ _ |>.below tX (fun _ _ h=>h.elim)⟩
end
end
section
open Go.RowKit
def dc(w:World)(R:Nat)(S:ByteArray)(x:Tx.R (Ty×Tx.Bs))(r:Ending)(w':World):Prop:=Aside (fun k=>k=R) w w'∧match x with
 |.ok (t,l)=>∃k p n c,∃F:Nat->Prop,r=.returned (.agg #[.int .i64 k,.slice p n c])∧aT w' F #[.int .i64 k,.slice p n c] t∧(∀i,F i->w.1.size<=i∧i<w'.1.size)∧an w' R S l
 |.error (e,m)=>∃k p n c,r=.returned (.agg #[.int .i64 k,.slice p n c])∧ap w' R S e m
def kf(wd:Tx.Bs):Nat->Int
 |0=>0
 |j+1=>if 1<=j∧Tx.word (j:Int)=wd then (j:Int) else kf wd j
theorem r6(wd:Tx.Bs):kf wd 8=Tx.kindOf wd:=by
 have e:∀j:Nat,j<8->1<=j->Tx.word (j:Int)=wd->Tx.kindOf wd=(j:Int):=fun j h1 h2 h3=>by
  rw[<-h3]
  exact Tx.kind_word (by omega)
 by_cases h:Tx.kindOf wd=0
 ·have hn:∀j:Nat,j<8->¬(1<=j∧Tx.word (j:Int)=wd):=fun j h1 h2=>by
   have:=e j h1 h2.1 h2.2
   omega
  rw[h]
  unfold kf kf kf kf kf kf kf kf kf
  rw[if_neg (hn 7 (by omega)),if_neg (hn 6 (by omega)),if_neg (hn 5 (by omega)),if_neg (hn 4 (by omega)),if_neg (hn 3 (by omega)),if_neg (hn 2 (by omega)),if_neg (hn 1 (by omega)),if_neg (hn 0 (by omega))]
 ·obtain⟨h1,h2,h3⟩:=Tx.word_kind h
  generalize hk:Tx.kindOf wd=k at *
  rcases Tx.word_cases ⟨h2,h3⟩ with rfl | rfl | rfl | rfl | rfl | rfl | rfl <;> subst h1 <;> decide
theorem ap.aside{w w':World}{R:Nat}{S:ByteArray}{e n:Nat}{F:Nat->Prop}(h:ap w R S e n)(ha:Aside F w w')(hF:¬F R):ap w' R S e n:=by
 obtain⟨a,h1,h2⟩:=h.lies
 exact⟨⟨a,h1,(ha.block R (Array.getElem?_eq_some_iff.1 h2).1 hF).trans h2⟩,h.bad,h.small⟩
theorem pk{w w1 w2:World}{R:Nat}{S:ByteArray}{e m:Nat}{r:Ending}(h:dc w R S (.error (e,m)) r w1)(hR:R<w.1.size)(ha:Aside (fun k=>k=w.1.size) w1 w2)(_:w.1.size<w1.1.size):dc w R S (.error (e,m)) r w2:=by
 obtain⟨h1,k,p,n,c,h2,h3⟩:=h
 exact⟨h1.trans ha (fun i hi hc=>by omega),k,p,n,c,h2,h3.aside ha (by omega)⟩
theorem eO{w:World}{b:Nat}{C:AV}{T:TypeId}(h:w.1[b]?=some (.cells C T (0,0)))(u v:Value)(hc:C.size=2):((w.setCell ⟨b,0,none⟩ u).setCell ⟨b,1,none⟩ v).1[b]?=some (.cells #[u,v] T (0,0))∧Aside (fun k=>k=b) w ((w.setCell ⟨b,0,none⟩ u).setCell ⟨b,1,none⟩ v):=by
 refine⟨?_,((Aside.refl (fun k=>k=b) w).setCell (p:=⟨b,0,none⟩) (.inl rfl) _).setCell (p:=⟨b,1,none⟩) (.inl rfl) _⟩
 obtain⟨l⟩:=C
 match l,hc with
 | [x,y],_=>
  simp only[World.setCell,Array.getElem?_modify,h,if_true,Option.map_some]
  rfl
section
variable {w w':World} {R:Nat} {S:ByteArray} {l:Tx.Bs}
theorem jy(h:an w R S l):Calls Tryz.prog 26 #[.pointer (some ⟨R,0,none⟩),.int .i64 ((5-0:Nat):Int)] w (dc w R S (Tx.pty 0 l)):=by
  obtain⟨W0,hW0⟩:∃W0,w.alloc (.cells #[.int .i64 0,.slice none 0 0] 32)=W0:=⟨_,rfl⟩
  have hb0:Below w.1.size w W0:=by rw[<-hW0];exact tY
  have hz0:W0.1[w.1.size]?=some (.cells #[.int .i64 0,.slice none 0 0] 32):=by rw[<-hW0];exact aj w _
  have h0:=h.on hb0
  have hRz:¬w.1.size=R:=by have:=h.lt;omega
  have HRl:=tQ h.lt
  have HF:Hid (Calls Tryz.prog 24 #[.pointer (some ⟨R,0,none⟩),.int .i64 62,.int .i64 ((S.size-l.length:Nat):Int)] W0 fun r w'=>r=.returned (.tuple #[])∧w'.1[w.1.size]?=some (.cells #[.int .i64 0,.slice none 0 0] 32)∧dc w R S (.error (62,l.length)) (.returned (.agg #[.int .i64 0,.slice none 0 0])) w'):=by
   refine(aP h0 62 l.length (by decide)).mono fun r w' ⟨q1,q2,q3⟩=>⟨q1,?_,?_,⟨_,_,_,_,rfl,q2⟩⟩
   ·exact(q3.block w.1.size (ae hz0) hRz).trans hz0
   ·exact(ag hb0 _).trans q3 (fun _ _ h=>h)
  have c1:W0.cell? ⟨R,1,none⟩=some (.int .i64 ((S.size-l.length:Nat):Int)):=h0.cell 1
  rw[<-hW0] at c1 HF
  clear h h0 hz0 hb0 hW0
  go_enter Tryz.func26,Tryz.ntmps26
  go_wp2_with fail
  refine HF.out.mono ?_
  rintro e w1 ⟨rfl,hz1,hp1⟩
  have y0:w1.cell? ⟨w.1.size,0,none⟩=some (.int .i64 0):=ab hz1 0
  have y1:w1.cell? ⟨w.1.size,1,none⟩=some (.slice none 0 0):=ab hz1 1
  have t0:=ac hz1 0
  have t1:=ac hz1 1
  have HZ1:=tQ hz1
  have HP1:=tQ hp1
  clear hz1 hp1 HF
  obtain⟨hz2,ha2⟩:=eO HZ1.out (.int .i64 0) (.slice none 0 0) rfl
  have HZ2:=tQ hz2
  have HP2:=tQ (pk HP1.out HRl.out ha2 (ae HZ1.out))
  clear hz2 ha2
  go_wp2
  refine bodyPost_ret (v:=.agg #[.int .i64 0,.slice none 0 0]) (results_cell_row rfl _ _ w.1.size _ _ _ _ rfl HZ2.out Tryz.underlying32 rfl (by kernel_rfl)) rfl ?_
  exact HP2.out
end
end
end Go.Proofs.YtllbniljgcgbeaaGreatDoor
