import Derived.Test.YtceomhodhmcknaaGreatDoorB18
import Derived.Test.YtceomhodhmcknaaGreatDoorB28
set_option maxRecDepth 100000
set_option maxHeartbeats 1000000
namespace Go.Proofs.YtceomhodhmcknaaGreatDoor
variable{A R T a c:Nat}{W W' w w':World}{l:L8}{p:OA}{C0:AV}{t:ByteArray}
section
open Go.RowKit
end
section
open Go.RowKit
theorem mL(p:OA)(len c m n:Nat)(h0:m<=n)(h:n<=c)(w:World):(Instr.slice 22 (.slice p len c) (some (.int .i64 m)) (some (.int .i64 n)) none).run Tryz.prog w=.ok (.slice (cZ p m c) (n-m) (c-m)) w:=by
 have hs:(sizeOf (Tryz.prog.elem 22)).run Tryz.prog w=.ok 1 w:=by kernel_rfl
 rw[run_slice_lh w 22 p len c (by kernel_rfl) .i64 .i64 (m:Int) (n:Int) (by omega) (by omega) (by omega),hs]
 simp[sliced,cZ,Result.andThen]
def jl:AV:=#[.nilFunc,.func (.func 169) #[] #[],.func (.func 170) #[] #[],.func (.func 171) #[] #[],.func (.func 172) #[] #[],.func (.func 173) #[] #[],.func (.func 174) #[] #[],.func (.func 175) #[] #[]]
section
variable {L:L8}
structure iT(L:L8)(w:World)(A R T:Nat)(p:OA)(c a:Nat):Prop where
 b0:w.1[R]?=some (.cells #[.slice (some ⟨T,0,none⟩) 8 8,.slice p L.length c,.int .i64 ((a:Nat):Int)] 213 (0,0))
 b1:w.1[T]?=some (.cells jl 242 (0,0))
 lies:At w p L
 cap:L.length<=c
 far:L≠[]->∀d,p=some d->d.block<A
 tab:T<R
 pos:a<=L.length
structure aC(L:L8)(w:World)(A R:Nat)(l:L8):Prop where
 out:∃T p c a,iT L w A R T p c a∧l=L.drop a
 small:L.length<=140737488351232
 low:A<=R
theorem aC.lt(h:aC L w A R l):R<w.1.size:=by
 obtain⟨T,p,c,a,h1,_⟩:=h.out
 exact ao h1.b0
theorem iT.keep(h:iT L w A R T p c a)(hl:A<=R)(hk:∀k,k<=R->w'.1[k]?=w.1[k]?)(hs:w.1.size<=w'.1.size):iT L w' A R T p c a:=by
 have ht:=h.tab
 exact⟨(hk R xX).trans h.b0,(hk T (by omega)).trans h.b1,h.lies.keep h.far (fun k hk'=>hk k (by omega)) hs,h.cap,h.far,ht,h.pos⟩
theorem aC.keep(h:aC L w A R l)(hk:∀k,k<=R->w'.1[k]?=w.1[k]?)(hs:w.1.size<=w'.1.size):aC L w' A R l:=by
 obtain⟨T,p,c,a,h1,h2⟩:=h.out
 exact⟨⟨T,p,c,a,h1.keep h.low hk hs,h2⟩,h.small,h.low⟩
theorem aC.on(h:aC L w A R l)(hb:Below w.1.size w w'):aC L w' A R l:=h.keep (fun k hk=>hb.block k (by have:=h.lt;omega)) hb.size
theorem aC.aside{F:Nat->Prop}(h:aC L w A R l)(ha:Aside F w w')(hF:∀k,F k->R<k):aC L w' A R l :=
 h.keep (fun k hk=>ha.block k (by have:=h.lt;omega) (fun hc=>by have:=hF k hc;omega)) ha.size
theorem aC.drew(h:aC L w A R l):aC L w.drew A R l:=h.keep (fun _ _=>rfl) xX
theorem iT.move(h:iT L w A R T p c a)(hl:A<=R)(n:Nat)(hn:n<=L.length):iT L (w.setCell ⟨R,2,none⟩ (.int .i64 ((n:Nat):Int))) A R T p c n:=by
 have ht:=h.tab
 have ha:Aside (fun i=>i=R) w (w.setCell ⟨R,2,none⟩ (.int .i64 ((n:Nat):Int))):=ai _ _ _ _
 have hR:=ao h.b0
 refine⟨by rw[al h.b0 2];rfl,(ha.block T (by omega) (by omega)).trans h.b1,?_,h.cap,h.far,ht,hn⟩
 rcases h.lies with h1 | ⟨b,o,rfl,hb,hcs⟩
 ·exact .inl h1
 ·by_cases h0:L=[]
  ·exact .inl h0
  ·have hbA:=h.far h0 _ rfl
   refine .inr ⟨b,o,rfl,Nat.lt_of_lt_of_le hb ha.size,fun j hj=>?_⟩
   rw[World.cell?_of_block (w:=w) (ha.block b hb (by show ¬b=R;simp only at hbA;omega))]
   exact hcs j hj
def bP{α:Type}(L:L8)(w:World)(A R:Nat)(l:L8)(r:Except Nat (α×Nat))(V:α->Value->World->Prop)(e:Ending)(w':World):Prop:=match r with
 |.error k=>e=.panicked (cY k)∧Aside (fun i=>i=R) w w'
 |.ok (a,j)=>∃v,e=.returned v∧V a v w'∧aC L w' A R (l.drop j)∧Aside (fun i=>i=R) w w'
theorem cW(a:Value)(k:Int)(w:World):Calls Tryz.prog 122 #[a,.bool true,.int .i64 k] w fun e w'=>e=.returned (.tuple #[])∧w'=w:=by
 go_enter Tryz.func122,Tryz.ntmps122
 go_wp2
 go_end0
 exact⟨rfl,rfl⟩
theorem cK(a:Value)(k:Nat)(w:World):Calls Tryz.prog 122 #[a,.bool false,.int .i64 k] w fun e w'=>e=.panicked (cY k)∧w'=w:=by
 go_enter Tryz.func122,Tryz.ntmps122
 go_wp2
 exact⟨rfl,rfl,rfl⟩
end
end
section
open Go.RowKit
section
variable {L:L8}
theorem jM(n:Nat)(l:L8)(A R:Nat)(w:World)(h:aC L w A R l):Calls Tryz.prog 192 #[.pointer (some ⟨R,0,none⟩),.int .i64 n] w (bP L w A R l (aV n l) isB):=by
  obtain⟨T,p,c,a,h1,hla⟩:=h.out
  have hsm:=h.small
  have hlow:=h.low
  have hpos:=h1.pos
  have hcap:=h1.cap
  have hll:l.length=L.length-a:=by rw[hla,List.length_drop]
  have c1:w.cell? ⟨R,1,none⟩=some (.slice p L.length c):=aa h1.b0 1
  have c2:w.cell? ⟨R,2,none⟩=some (.int .i64 ((a:Nat):Int)):=aa h1.b0 2
  have f2:=ac h1.b0 2
  obtain⟨r,hr⟩:∃r,r=aV n l:=⟨_,rfl⟩
  rw[<-hr]
  have i1:(a:Int)<=(L.length:Int):=by omega
  have i2:(L.length:Int)<=140737488351232:=by omega
  have hwr:IntKind.i64.wrap ((L.length:Int)-(a:Int))=(L.length:Int)-(a:Int):=by rw[IntKind.wrap_i64];omega
  by_cases hlt:l.length<n
  · have g0:decide ((n:Int)<=(L.length:Int)-(a:Int))=false:=decide_eq_false (by omega)
    have HR:Hid (r=.error 30):=by show _=_;rw[hr,aV,if_pos hlt]
    clear hr hlt h1 h hla hll hsm hpos hcap
    go_enter Tryz.func192,Tryz.ntmps192
    go_wp2_with fail
    go_region_law (first
      | (refine cE (.tmp 6) (.tmp 18) (.const (.int .i64 30)) 208 4 36 (by rfl) (by rfl) (by rfl) (by rfl) (by rfl) Tryz.func122 (by kernel_rfl) (by rfl) (cK _ 30 _) (fun e w1 hh=>⟨_,hh.1,rfl,by rw[HR.out,hh.2];exact⟨rfl,(Aside.refl _ _).drew⟩⟩) (.tuple #[]) ?_
         intro HF)
      | (refine br HF (.tuple #[]) ?_)
      |fail)
    all_goals exact HF.out.elim
  · have g0:decide ((n:Int)<=(L.length:Int)-(a:Int))=true:=decide_eq_true (by omega)
    have HR:Hid (r=.ok (l.take n,n)):=by show _=_;rw[hr,aV,if_neg hlt]
    have i3:(a:Int)+(n:Int)<=140737488351232:=by omega
    have ecast:(a:Int)+(n:Int)=((a+n:Nat):Int):=by omega
    have hwr2:IntKind.i64.wrap ((a:Int)+(n:Int))=(a:Int)+(n:Int):=by rw[IntKind.wrap_i64];omega
    have s1:∀w,(Instr.slice 22 (.slice p L.length c) (some (.int .i64 (a:Int))) (some (.int .i64 ((a:Int)+(n:Int)))) none).run Tryz.prog w=.ok (.slice (cZ p a c) n (c-a)) w:=fun w=>by
      have:=mL p L.length c a (a+n) (by omega) (by omega) w
      rw[Nat.add_sub_cancel_left,<-ecast] at this
      exact this
    have HFin:Hid (∀W,Below w.1.size w W->isB (l.take n) (.slice (cZ p a c) n (c-a)) (W.setCell ⟨R,2,none⟩ (.int .i64 ((a:Int)+(n:Int))))∧aC L (W.setCell ⟨R,2,none⟩ (.int .i64 ((a:Int)+(n:Int)))) A R (l.drop n)∧Aside (fun i=>i=R) w (W.setCell ⟨R,2,none⟩ (.int .i64 ((a:Int)+(n:Int))))):=by
      intro W hb
      have hR:=ao h1.b0
      have h2:=h1.keep hlow (w':=W) (fun k hk=>hb.block k (by omega)) hb.size
      have hM:=h2.move hlow (a+n) (by omega)
      rw[ecast]
      refine⟨?_,⟨⟨T,p,c,a+n,hM,by rw[hla,List.drop_drop]⟩,hsm,hlow⟩,(ag hb _).trans (ai _ _ _ _) (fun _ _ h=>h)⟩
      have e1:(l.take n).length=n:=by rw[List.length_take];omega
      refine⟨cZ p a c,c-a,by rw[e1],?_,by omega⟩
      rw[hla]
      have h3:=hM.lies.cut a c hcap
      rcases h3 with h3 | ⟨b,o,h3,hb,hcs⟩
      · exact .inl (by rw[h3,List.take_nil])
      · exact .inr ⟨b,o,h3,hb,dw hcs n⟩
    clear hr hlt h1 h hla hll hsm hpos hcap ecast
    go_enter Tryz.func192,Tryz.ntmps192
    go_wp2_with fail
    go_region_law (first
      | (refine bK (.tmp 6) (.tmp 18) (.const (.int .i64 30)) 208 4 36 (by rfl) (by rfl) (by rfl) (by rfl) (by rfl) Tryz.func122 (by kernel_rfl) (by rfl) (cW _ 30 _) ?_
         rintro e w1 ⟨rfl,hw1⟩
         refine⟨_,rfl,?_⟩
         rw[hw1]
         clear hw1 w1)
      |fail)
    all_goals
      go_wp2_with fail
      go_region_law (fail)
      all_goals
        go_wp2
        go_ret
        obtain⟨f1,f2,f3⟩:=HFin.out w.drew.drew xZ.drew.drew
        rw[HR.out]
        exact⟨_,rfl,f1,f2,f3⟩
theorem bP.good{α:Type}{w w':World}{A R:Nat}{l:L8}{a:α}{j:Nat}{V:α->Value->World->Prop}{e:Ending}(h:bP L w A R l (.ok (a,j)) V e w'):∃v,e=.returned v∧V a v w'∧aC L w' A R (l.drop j)∧Aside (fun i=>i=R) w w':=h
theorem bP.bad{α:Type}{w w':World}{A R:Nat}{l:L8}{k:Nat}{V:α->Value->World->Prop}{e:Ending}(h:bP L w A R l (.error k) V e w'):e=.panicked (cY k)∧Aside (fun i=>i=R) w w':=h
theorem jv(l:L8)(A R:Nat)(w:World)(h:aC L w A R l):Calls Tryz.prog 191 #[.pointer (some ⟨R,0,none⟩)] w (bP L w A R l (Sch.num l) isU):=by
  obtain⟨T,p,c,a,h1,hla⟩:=h.out
  have hsm:=h.small
  have hlow:=h.low
  have hpos:=h1.pos
  have c1:w.cell? ⟨R,1,none⟩=some (.slice p L.length c):=aa h1.b0 1
  have c2:w.cell? ⟨R,2,none⟩=some (.int .i64 ((a:Nat):Int)):=aa h1.b0 2
  have f2:=ac h1.b0 2
  have HG:=xQ (fun w hat=>fA p c L (a:Int) (by omega) h1.cap w hat)
  have hat':At w.drew p L:=h1.lies
  have h2d:=xQ hat'
  clear hat'
  rw[rV,<-hla] at HG
  obtain⟨r,hr⟩:∃r,r=Sch.num l:=⟨_,rfl⟩
  rw[<-hr] at HG ⊢
  cases r with
  |error er=>
    have he0:er≠0:=by
      intro he
      have:=hr.symm
      unfold Sch.num at this
      split at this
      · cases this
      · next h0=>injection this with this;omega
    have g0:((er:Int)==0)=false:=bv (by omega)
    have e1:tm a (.error er)=.tuple #[.int .u64 0,.int .i64 0,.int .i64 (er:Nat)]:=rfl
    rw[e1] at HG
    clear e1 hr h1 h he0 hla hpos hsm
    go_enter Tryz.func191,Tryz.ntmps191
    go_wp2_with fail
    go_region_law (first
      | (refine cV (.tmp 10) (.tmp 14) 22 3 (by rfl) (by rfl) (by rfl) (by rfl) Tryz.func143 (by kernel_rfl) (by rfl) (HG.out _ h2d.out) ?_
         rintro e w1 ⟨rfl,hw1⟩
         refine⟨_,rfl,?_⟩
         rw[hw1]
         clear hw1 w1)
      |fail)
    all_goals
      go_wp2_with fail
      refine(cK _ er _).mono ?_
      rintro e w1 ⟨rfl,hw1⟩
      rw[hw1]
      clear hw1 w1
      go_wp2
      exact⟨rfl,rfl,(Aside.refl _ _).drew⟩
  |ok nk=>
    obtain⟨n,k⟩:=nk
    have e1:tm a (.ok (n,k))=.tuple #[.int .u64 (n:Nat),.int .i64 ((a+k:Nat):Int),.int .i64 0]:=rfl
    rw[e1] at HG
    clear e1
    obtain⟨hk,-⟩:=et hr.symm
    have HFin:Hid (∀W,Below w.1.size w W->aC L (W.setCell ⟨R,2,none⟩ (.int .i64 ((a+k:Nat):Int))) A R (l.drop k)∧Aside (fun i=>i=R) w (W.setCell ⟨R,2,none⟩ (.int .i64 ((a+k:Nat):Int)))):=by
      intro W hb
      have hR:=ao h1.b0
      have h2:=h1.keep hlow (w':=W) (fun k hk=>hb.block k (by omega)) hb.size
      exact⟨⟨⟨T,p,c,a+k,h2.move hlow (a+k) (by rw[hla,List.length_drop] at hk;omega),by rw[hla,List.drop_drop]⟩,hsm,hlow⟩,(ag hb _).trans (ai _ _ _ _) (fun _ _ h=>h)⟩
    obtain⟨m,hm⟩:∃m,m=a+k:=⟨_,rfl⟩
    rw[<-hm] at HG HFin
    clear hr h1 h hk hla hpos hsm hm
    go_enter Tryz.func191,Tryz.ntmps191
    go_wp2_with fail
    go_region_law (first
      | (refine cV (.tmp 10) (.tmp 14) 22 3 (by rfl) (by rfl) (by rfl) (by rfl) Tryz.func143 (by kernel_rfl) (by rfl) (HG.out _ h2d.out) ?_
         rintro e w1 ⟨rfl,hw1⟩
         refine⟨_,rfl,?_⟩
         rw[hw1]
         clear hw1 w1)
      |fail)
    all_goals
      go_wp2_with fail
      refine(cW _ 0 _).mono ?_
      rintro e w1 ⟨rfl,hw1⟩
      rw[hw1]
      clear hw1 w1
      go_wp2
      go_ret
      obtain⟨f1,f2⟩:=HFin.out w.drew xZ.drew
      exact⟨_,rfl,rfl,f1,f2⟩
theorem l9(most er:Nat)(hm:most<=1024)(l:L8)(A R:Nat)(w:World)(h:aC L w A R l):Calls Tryz.prog 195 #[.pointer (some ⟨R,0,none⟩),.int .u64 most,.int .i64 er] w (bP L w A R l (aT most er l) isI):=by
 have HN:=xQ (jv l A R w h)
 obtain⟨r,hr⟩:∃r,r=aT most er l:=⟨_,rfl⟩
 have HR:Hid (r=match Sch.num l with
  |.error e=>.error e
  |.ok (n,k)=>if most<n then .error er else .ok (n,k)):=hr
 rw[<-hr]
 clear h hr
 obtain⟨m,hm0⟩:∃m,m=Sch.num l:=⟨_,rfl⟩
 rw[<-hm0] at HN HR
 have HM:=xQ hm0
 clear hm0
 cases m with
 |error e0=>
  go_enter Tryz.func195,Tryz.ntmps195
  go_wp2_with fail
  refine HN.out.mono ?_
  intro e w1 hh
  obtain⟨he,ha⟩:=hh.bad
  subst he
  clear hh
  have HA:=xQ ha
  clear ha HN
  go_wp2
  rw[HR.out]
  exact⟨rfl,rfl,HA.out⟩
 |ok nk=>
  obtain⟨n,k⟩:=nk
  have hn64:=(et HM.out.symm).2
  by_cases hlt:most<n
  ·have HR2:Hid (r=.error er):=by show _=_;rw[HR.out];exact if_pos hlt
   have g0:¬n<=most:=by omega
   clear HR hlt
   go_enter Tryz.func195,Tryz.ntmps195
   go_wp2_with fail
   refine HN.out.mono ?_
   intro e w1 hh
   obtain⟨v,he,hv,-,ha⟩:=hh.good
   clear hh
   replace hv:v=.int .u64 (n:Nat):=hv
   subst hv
   subst he
   have HA:=xQ ha
   clear ha HN
   go_wp2_with fail
   refine(cK _ er _).mono ?_
   rintro e w2 ⟨rfl,hw2⟩
   rw[hw2]
   clear hw2 w2
   go_wp2
   rw[HR2.out]
   exact⟨rfl,rfl,HA.out⟩
  ·have HR2:Hid (r=.ok (n,k)):=by show _=_;rw[HR.out];exact if_neg hlt
   have g0:n<=most:=by omega
   have g1:(n:Int)<=1024:=by omega
   clear HR hlt
   go_enter Tryz.func195,Tryz.ntmps195
   go_wp2_with fail
   refine HN.out.mono ?_
   intro e w1 hh
   obtain⟨v,he,hv,hrd,ha⟩:=hh.good
   clear hh
   replace hv:v=.int .u64 (n:Nat):=hv
   subst hv
   subst he
   have HA:=xQ ha
   have HRd:=xQ hrd
   clear ha HN hrd
   go_wp2_with fail
   refine(cW _ er _).mono ?_
   rintro e w2 ⟨rfl,hw2⟩
   rw[hw2]
   clear hw2 w2
   go_wp2
   go_ret
   rw[HR2.out]
   exact⟨_,rfl,rfl,HRd.out,HA.out⟩
theorem oH(l:L8)(A R:Nat)(w:World)(h:aC L w A R l):Calls Tryz.prog 189 #[.pointer (some ⟨R,0,none⟩)] w (bP L w A R l (Sch.bit l) isI):=by
 have HT:=xQ (jM 1 l A R w h)
 clear h
 cases l with
 |nil=>
  have e1:aV 1 []=.error 30:=rfl
  rw[e1] at HT
  go_enter Tryz.func189,Tryz.ntmps189
  go_wp2_with fail
  refine HT.out.mono ?_
  intro e w1 hh
  obtain⟨he,ha⟩:=hh.bad
  subst he
  clear hh
  have HA:=xQ ha
  clear ha HT
  go_wp2
  exact⟨rfl,rfl,HA.out⟩
 |cons b t=>
  have e1:aV 1 (b::t)=.ok ([b],1):=by
   unfold aV
   rw[if_neg (by simp)]
   rfl
  rw[e1] at HT
  have hb:=b.toNat_lt
  by_cases hlt:1<b.toNat
  ·have e2:Sch.bit (b::t)=.error 5:=by rw[Sch.bit,if_pos hlt]
   have g0:decide ((b.toNat:Int)<=1)=false:=decide_eq_false (by omega)
   rw[e2]
   clear e1 e2
   go_enter Tryz.func189,Tryz.ntmps189
   go_wp2_with fail
   refine HT.out.mono ?_
   intro e w1 hh
   obtain⟨v,he,hv,-,ha⟩:=hh.good
   obtain⟨q,c,hv,hat,-⟩:=hv.open
   clear hh
   subst hv
   subst he
   obtain⟨bq,oq,rfl,-,hcs⟩:=aZ hat (by simp)
   have d0:w1.cell? ⟨bq,oq,none⟩=some (.int .u8 (b.toNat:Int)):=hcs 0 (by simp)
   have HA:=xQ ha
   clear ha HT hat hcs
   go_wp2_with fail
   refine(cK _ 5 _).mono ?_
   rintro e w2 ⟨rfl,hw2⟩
   rw[hw2]
   clear hw2 w2
   go_wp2
   exact⟨rfl,rfl,HA.out⟩
  ·have e2:Sch.bit (b::t)=.ok (b.toNat,1):=by rw[Sch.bit,if_neg hlt]
   have g0:decide ((b.toNat:Int)<=1)=true:=decide_eq_true (by omega)
   rw[e2]
   clear e1 e2
   go_enter Tryz.func189,Tryz.ntmps189
   go_wp2_with fail
   refine HT.out.mono ?_
   intro e w1 hh
   obtain⟨v,he,hv,hrd,ha⟩:=hh.good
   obtain⟨q,c,hv,hat,-⟩:=hv.open
   clear hh
   subst hv
   subst he
   obtain⟨bq,oq,rfl,-,hcs⟩:=aZ hat (by simp)
   have d0:w1.cell? ⟨bq,oq,none⟩=some (.int .u8 (b.toNat:Int)):=hcs 0 (by simp)
   have HA:=xQ ha
   have HRd:=xQ hrd
   clear ha HT hat hcs hrd
   go_wp2_with fail
   refine(cW _ 5 _).mono ?_
   rintro e w2 ⟨rfl,hw2⟩
   rw[hw2]
   clear hw2 w2
   go_wp2
   go_ret
   exact⟨_,rfl,rfl,HRd.out,HA.out⟩
end
end
section
open Go.RowKit
attribute [local go_sem] af
theorem iF{L:L8}{wr:World}{N:Nat}{k i:Int}{b:Nat}{q:OA}{n:Nat}{x:V}{F:Nat->Prop}(hR:R<w.1.size)(hN:w.1.size<=N)(bN:wr.1[N]?=some (.cells #[.int .i64 0,.int .i64 0,.float .f64 0,.string ⟨#[]⟩,.slice none 0 0] 47 (0,0)))(hown:aR wr F (cells5 k i b t q n c) x)(hF:∀j,F j->N<j∧j<wr.1.size)(hrd:aC L wr A R l)(ha:Aside (fun j=>j=R) w wr):
  (dH wr N k i b t (.slice q n c)).1[N]?=some (.cells (cells5 k i b t q n c) 47 (0,0))∧isV w x (.agg (cells5 k i b t q n c)) (dH wr N k i b t (.slice q n c))∧aC L (dH wr N k i b t (.slice q n c)) A R l∧Aside (fun j=>j=R) w (dH wr N k i b t (.slice q n c)):=by
 have h2:=iA wr N k i b t (.slice q n c)
 have hs:=jw wr N k i b t (.slice q n c)
 refine⟨lO bN rfl k i b t q n c,⟨_,rfl,?_⟩,hrd.aside h2 (fun j hj=>by rw[hj];omega),ha.trans h2 (fun j hj he=>by rw[he] at hj;omega)⟩
 rw[hs]
 exact(hown.aside h2 (fun j hj he=>by have:=hF j hj;omega)).mono (fun j hj=>by have:=hF j hj;omega)
structure ba(L:L8)(w W:World)(A R:Nat)(C0:AV)(l:L8):Prop where
 b0:W.1[w.1.size]?=some (.cells C0 88 (0,0))
 b1:W.1[w.1.size+1]?=some (.cells #[.int .i64 0,.int .i64 0,.float .f64 0,.string ⟨#[]⟩,.slice none 0 0] 47 (0,0))
 rd:aC L W A R l
 aside:Aside (fun i=>i=R) w W
 size:w.1.size+2<=W.1.size
section
variable {L:L8}
theorem bl(C0:AV){l:L8}(h:aC L w A R l):ba L w ((w.alloc (.cells C0 88)).alloc (.cells #[.int .i64 0,.int .i64 0,.float .f64 0,.string ⟨#[]⟩,.slice none 0 0] 47)) A R C0 l:=by
 have hb:Below w.1.size w ((w.alloc (.cells C0 88)).alloc (.cells #[.int .i64 0,.int .i64 0,.float .f64 0,.string ⟨#[]⟩,.slice none 0 0] 47)):=xY.alloc (by simp) _
 refine⟨?_,?_,h.on hb,ag hb _,by simp⟩
 ·rw[az _ _ (by simp)];exact ap w _
 ·have:=ap (w.alloc (.cells C0 88)) (.cells #[.int .i64 0,.int .i64 0,.float .f64 0,.string ⟨#[]⟩,.slice none 0 0] 47)
  simpa using this
theorem ba.drew(h:ba L w W A R C0 l):ba L w W.drew A R C0 l:=⟨h.b0,h.b1,h.rd.drew,h.aside.drew,h.size⟩
theorem ba.on(h:ba L w W A R C0 l)(hb:Below W.1.size W W'):ba L w W' A R C0 l:=by
 have hs:=h.size
 exact⟨by rw[hb.block _ (by omega)];exact h.b0,by rw[hb.block _ (by omega)];exact h.b1,h.rd.on hb,h.aside.trans (ag hb (fun i=>i=R)) (fun _ _ h=>h),Nat.le_trans hs hb.size⟩
theorem ba.step{l':L8}(h:ba L w W A R C0 l)(ha:Aside (fun i=>i=R) W W')(hrd:aC L W' A R l')(hR:R<w.1.size):ba L w W' A R C0 l':=by
 have hs:=h.size
 refine⟨?_,?_,hrd,h.aside.trans ha (fun _ _ h=>h),Nat.le_trans hs ha.size⟩
 ·rw[ha.block _ (by omega) (by omega)];exact h.b0
 ·rw[ha.block _ (by omega) (by omega)];exact h.b1
theorem ba.fin(h:ba L w W A R C0 l)(hR:R<w.1.size)(k i:Int)(b:Nat)(t:ByteArray):
  (dH W (w.1.size+1) k i b t (.slice none 0 0)).1[w.1.size+1]?=some (.cells (cells5 k i b t none 0 0) 47 (0,0))∧isV w (.mk k i b t []) (.agg (cells5 k i b t none 0 0)) (dH W (w.1.size+1) k i b t (.slice none 0 0))∧aC L (dH W (w.1.size+1) k i b t (.slice none 0 0)) A R l∧Aside (fun j=>j=R) w (dH W (w.1.size+1) k i b t (.slice none 0 0)) :=
 iF (F:=fun _=>False) hR (by omega) h.b1 .none (fun _ h=>h.elim) h.rd h.aside
theorem pt(l:L8)(A R:Nat)(w:World)(p:OA)(n c:Nat)(h:aC L w A R l):Calls Tryz.prog 169 #[.pointer (some ⟨R,0,none⟩),.agg #[.int .i64 1,.slice p n c]] w (bP L w A R l (Sch.scalar 1 l) (isV w)):=by
  have hR:=h.lt
  obtain⟨W,hW⟩:∃W,W=(w.alloc (.cells #[.int .i64 1,.slice p n c] 88)).alloc (.cells #[.int .i64 0,.int .i64 0,.float .f64 0,.string ⟨#[]⟩,.slice none 0 0] 47):=⟨_,rfl⟩
  have HI:Hid (ba L w W A R #[.int .i64 1,.slice p n c] l):=by rw[hW];exact bl _ h
  have HW:=xQ hW
  obtain⟨r,hr⟩:∃r,r=Sch.scalar 1 l:=⟨_,rfl⟩
  have HR:=xQ (hr.trans (lw l))
  rw[<-hr]
  have HC:=xQ (oH l A R W.drew HI.out.rd.drew)
  obtain⟨m,hm⟩:∃m,m=Sch.bit l:=⟨_,rfl⟩
  rw[<-hm] at HR HC
  have HM:=xQ hm
  have k0:W.cell? ⟨w.1.size,0,none⟩=some (.int .i64 1):=aa HI.out.b0 0
  have q0:W.cell? ⟨w.1.size+1,0,none⟩=some (.int .i64 0):=aa HI.out.b1 0
  have qf0:W.frozen? ⟨w.1.size+1,0,none⟩=false:=ac HI.out.b1 0
  have q1:W.cell? ⟨w.1.size+1,1,none⟩=some (.int .i64 0):=aa HI.out.b1 1
  have qf1:W.frozen? ⟨w.1.size+1,1,none⟩=false:=ac HI.out.b1 1
  have q2:W.cell? ⟨w.1.size+1,2,none⟩=some (.float .f64 0):=aa HI.out.b1 2
  have qf2:W.frozen? ⟨w.1.size+1,2,none⟩=false:=ac HI.out.b1 2
  have q3:W.cell? ⟨w.1.size+1,3,none⟩=some (.string ⟨#[]⟩):=aa HI.out.b1 3
  have qf3:W.frozen? ⟨w.1.size+1,3,none⟩=false:=ac HI.out.b1 3
  have q4:W.cell? ⟨w.1.size+1,4,none⟩=some (.slice none 0 0):=aa HI.out.b1 4
  have qf4:W.frozen? ⟨w.1.size+1,4,none⟩=false:=ac HI.out.b1 4
  clear hr hm h hW
  cases m with
  |error er=>
    have HR2:Hid (r=.error er):=HR.out
    clear HR HM
    go_enter Tryz.func169,Tryz.ntmps169
    go_wp2_with fail
    rw[<-HW.out]
    clear HW
    go_region_law (first
      | (refine bY (.tmp 7) 208 (by rfl) (by rfl) (by rfl) Tryz.func189 (by kernel_rfl) (by rfl) HC.out (fun e w1 hh=>⟨_,hh.bad.1,rfl,by rw[HR2.out];exact⟨rfl,HI.out.aside.drew.trans hh.bad.2 (fun _ _ h=>h)⟩⟩) (.int .i64 0) ?_
         intro HF)
      | (refine br HF (.int .i64 0) ?_)
      |fail)
    all_goals exact HF.out.elim
  |ok xj=>
    obtain⟨x,j⟩:=xj
    have HR2:Hid (r=.ok (.mk 1 (x:Nat) 0 ⟨#[]⟩ [],j)):=HR.out
    clear HR
    clear HM
    go_enter Tryz.func169,Tryz.ntmps169
    go_wp2_with fail
    rw[<-HW.out]
    clear HW
    go_region_law (first
      | (refine aN (.tmp 7) 208 (by rfl) (by rfl) (by rfl) Tryz.func189 (by kernel_rfl) (by rfl) HC.out ?_
         intro e w1 hh
         obtain⟨v,he,hv,hrd,ha⟩:=hh.good
         clear hh
         replace hv:v=.int .i64 (x:Nat):=hv
         subst hv
         refine⟨_,he,?_⟩
         clear he
         have HI1:=xQ (HI.out.drew.step ha hrd hR)
         clear ha hrd
         have k1:w1.cell? ⟨w.1.size,0,none⟩=some (.int .i64 1):=aa HI1.out.b0 0
         have t0:w1.cell? ⟨w.1.size+1,0,none⟩=some (.int .i64 0):=aa HI1.out.b1 0
         have tf0:w1.frozen? ⟨w.1.size+1,0,none⟩=false:=ac HI1.out.b1 0
         have t1:w1.cell? ⟨w.1.size+1,1,none⟩=some (.int .i64 0):=aa HI1.out.b1 1
         have tf1:w1.frozen? ⟨w.1.size+1,1,none⟩=false:=ac HI1.out.b1 1
         have t2:w1.cell? ⟨w.1.size+1,2,none⟩=some (.float .f64 0):=aa HI1.out.b1 2
         have tf2:w1.frozen? ⟨w.1.size+1,2,none⟩=false:=ac HI1.out.b1 2
         have t3:w1.cell? ⟨w.1.size+1,3,none⟩=some (.string ⟨#[]⟩):=aa HI1.out.b1 3
         have tf3:w1.frozen? ⟨w.1.size+1,3,none⟩=false:=ac HI1.out.b1 3
         have t4:w1.cell? ⟨w.1.size+1,4,none⟩=some (.slice none 0 0):=aa HI1.out.b1 4
         have tf4:w1.frozen? ⟨w.1.size+1,4,none⟩=false:=ac HI1.out.b1 4
         have HFin:=xQ (HI1.out.fin hR 1 (x:Nat) 0 ⟨#[]⟩))
      |fail)
    all_goals
      go_wp2
      obtain⟨f1,f2,f3,f4⟩:=HFin.out
      refine bodyPost_ret (v:=.agg (cells5 1 (x:Nat) 0 ⟨#[]⟩ none 0 0)) (results_cell_row rfl _ _ (w.1.size+1) _ _ _ _ rfl f1 Tryz.underlying47 rfl (by kernel_rfl)) rfl ?_
      rw[HR2.out]
      exact⟨_,rfl,f2,f3,f4⟩
theorem qZ(l:L8)(A R:Nat)(w:World)(p:OA)(n c:Nat)(h:aC L w A R l):Calls Tryz.prog 170 #[.pointer (some ⟨R,0,none⟩),.agg #[.int .i64 2,.slice p n c]] w (bP L w A R l (Sch.scalar 2 l) (isV w)):=by
  have hR:=h.lt
  obtain⟨W,hW⟩:∃W,W=(w.alloc (.cells #[.int .i64 2,.slice p n c] 88)).alloc (.cells #[.int .i64 0,.int .i64 0,.float .f64 0,.string ⟨#[]⟩,.slice none 0 0] 47):=⟨_,rfl⟩
  have HI:Hid (ba L w W A R #[.int .i64 2,.slice p n c] l):=by rw[hW];exact bl _ h
  have HW:=xQ hW
  obtain⟨r,hr⟩:∃r,r=Sch.scalar 2 l:=⟨_,rfl⟩
  have HR:=xQ (hr.trans (lu l))
  rw[<-hr]
  have HC:=xQ (jv l A R W.drew HI.out.rd.drew)
  obtain⟨m,hm⟩:∃m,m=Sch.num l:=⟨_,rfl⟩
  rw[<-hm] at HR HC
  have HM:=xQ hm
  have k0:W.cell? ⟨w.1.size,0,none⟩=some (.int .i64 2):=aa HI.out.b0 0
  have q0:W.cell? ⟨w.1.size+1,0,none⟩=some (.int .i64 0):=aa HI.out.b1 0
  have qf0:W.frozen? ⟨w.1.size+1,0,none⟩=false:=ac HI.out.b1 0
  have q1:W.cell? ⟨w.1.size+1,1,none⟩=some (.int .i64 0):=aa HI.out.b1 1
  have qf1:W.frozen? ⟨w.1.size+1,1,none⟩=false:=ac HI.out.b1 1
  have q2:W.cell? ⟨w.1.size+1,2,none⟩=some (.float .f64 0):=aa HI.out.b1 2
  have qf2:W.frozen? ⟨w.1.size+1,2,none⟩=false:=ac HI.out.b1 2
  have q3:W.cell? ⟨w.1.size+1,3,none⟩=some (.string ⟨#[]⟩):=aa HI.out.b1 3
  have qf3:W.frozen? ⟨w.1.size+1,3,none⟩=false:=ac HI.out.b1 3
  have q4:W.cell? ⟨w.1.size+1,4,none⟩=some (.slice none 0 0):=aa HI.out.b1 4
  have qf4:W.frozen? ⟨w.1.size+1,4,none⟩=false:=ac HI.out.b1 4
  clear hr hm h hW
  cases m with
  |error er=>
    have HR2:Hid (r=.error er):=HR.out
    clear HR HM
    go_enter Tryz.func170,Tryz.ntmps170
    go_wp2_with fail
    rw[<-HW.out]
    clear HW
    go_region_law (first
      | (refine bY (.tmp 7) 208 (by rfl) (by rfl) (by rfl) Tryz.func191 (by kernel_rfl) (by rfl) HC.out (fun e w1 hh=>⟨_,hh.bad.1,rfl,by rw[HR2.out];exact⟨rfl,HI.out.aside.drew.trans hh.bad.2 (fun _ _ h=>h)⟩⟩) (.int .u64 0) ?_
         intro HF)
      | (refine br HF (.int .i64 0) ?_)
      |fail)
    all_goals exact HF.out.elim
  |ok xj=>
    obtain⟨x,j⟩:=xj
    have HR2:Hid (r=.ok (.mk 2 (Leb.zag x) 0 ⟨#[]⟩ [],j)):=HR.out
    clear HR
    have HZ:=xQ (oa x (et HM.out.symm).2)
    obtain⟨z,hz⟩:∃z,z=Leb.zag x:=⟨_,rfl⟩
    rw[<-hz] at HZ HR2
    clear hz HM
    go_enter Tryz.func170,Tryz.ntmps170
    go_wp2_with fail
    rw[<-HW.out]
    clear HW
    go_region_law (first
      | (refine aN (.tmp 7) 208 (by rfl) (by rfl) (by rfl) Tryz.func191 (by kernel_rfl) (by rfl) HC.out ?_
         intro e w1 hh
         obtain⟨v,he,hv,hrd,ha⟩:=hh.good
         clear hh
         replace hv:v=.int .u64 (x:Nat):=hv
         subst hv
         refine⟨_,he,?_⟩
         clear he
         have HI1:=xQ (HI.out.drew.step ha hrd hR)
         clear ha hrd
         have k1:w1.cell? ⟨w.1.size,0,none⟩=some (.int .i64 2):=aa HI1.out.b0 0
         have t0:w1.cell? ⟨w.1.size+1,0,none⟩=some (.int .i64 0):=aa HI1.out.b1 0
         have tf0:w1.frozen? ⟨w.1.size+1,0,none⟩=false:=ac HI1.out.b1 0
         have t1:w1.cell? ⟨w.1.size+1,1,none⟩=some (.int .i64 0):=aa HI1.out.b1 1
         have tf1:w1.frozen? ⟨w.1.size+1,1,none⟩=false:=ac HI1.out.b1 1
         have t2:w1.cell? ⟨w.1.size+1,2,none⟩=some (.float .f64 0):=aa HI1.out.b1 2
         have tf2:w1.frozen? ⟨w.1.size+1,2,none⟩=false:=ac HI1.out.b1 2
         have t3:w1.cell? ⟨w.1.size+1,3,none⟩=some (.string ⟨#[]⟩):=aa HI1.out.b1 3
         have tf3:w1.frozen? ⟨w.1.size+1,3,none⟩=false:=ac HI1.out.b1 3
         have t4:w1.cell? ⟨w.1.size+1,4,none⟩=some (.slice none 0 0):=aa HI1.out.b1 4
         have tf4:w1.frozen? ⟨w.1.size+1,4,none⟩=false:=ac HI1.out.b1 4
         have HFin:=xQ (HI1.out.fin hR 2 z 0 ⟨#[]⟩))
      | (refine aN (.tmp 8) 195 (by rfl) (by rfl) (by rfl) Tryz.func190 (by kernel_rfl) (by rfl) (HZ.out _) ?_
         rintro e w2 ⟨rfl,hw2⟩
         refine⟨_,rfl,?_⟩
         rw[hw2]
         clear hw2 w2)
      |fail)
    all_goals
      go_wp2
      obtain⟨f1,f2,f3,f4⟩:=HFin.out
      refine bodyPost_ret (v:=.agg (cells5 2 z 0 ⟨#[]⟩ none 0 0)) (results_cell_row rfl _ _ (w.1.size+1) _ _ _ _ rfl f1 Tryz.underlying47 rfl (by kernel_rfl)) rfl ?_
      rw[HR2.out]
      exact⟨_,rfl,f2,f3,f4⟩
end
end
section
open Go.RowKit
attribute [local go_sem] af
section
variable {L:L8}
def gj(k:Int)(l:L8):Except Nat (V×Nat):=au (Sch.text 1024 2 l) fun t j=>.ok (.mk k 0 0 t [],j)
theorem kH(k:Int)(l:L8):gj k l=au (aT 1024 2 l) fun n j=>au (aV n (l.drop j)) fun b i=>.ok (.mk k 0 0 (textOf b) [],j+i):=by
 unfold gj
 rw[eW]
 cases aT 1024 2 l with
 |error e=>rfl
 |ok nk=>
  obtain⟨n,k⟩:=nk
  rw[aG,aG]
  cases aV n (l.drop k) with
  |error e=>rfl
  |ok bj=>rfl
theorem iq(k:Int)(l:L8)(A R:Nat)(w:World)(p:OA)(n c:Nat)(h:aC L w A R l):Calls Tryz.prog 173 #[.pointer (some ⟨R,0,none⟩),.agg #[.int .i64 k,.slice p n c]] w (bP L w A R l (gj k l) (isV w)):=by
  have hR:=h.lt
  obtain⟨W,hW⟩:∃W,W=(w.alloc (.cells #[.int .i64 k,.slice p n c] 88)).alloc (.cells #[.int .i64 0,.int .i64 0,.float .f64 0,.string ⟨#[]⟩,.slice none 0 0] 47):=⟨_,rfl⟩
  have HI:Hid (ba L w W A R #[.int .i64 k,.slice p n c] l):=by rw[hW];exact bl _ h
  have HW:=xQ hW
  obtain⟨r,hr⟩:∃r,r=gj k l:=⟨_,rfl⟩
  have HR:=xQ (hr.trans (kH k l))
  rw[<-hr]
  have HC:=xQ (l9 1024 2 (by omega) l A R W HI.out.rd)
  obtain⟨m,hm⟩:∃m,m=aT 1024 2 l:=⟨_,rfl⟩
  rw[<-hm] at HR HC
  clear hr hm h hW
  cases m with
  |error er=>
    have HR2:Hid (r=.error er):=HR.out
    clear HR
    go_enter Tryz.func173,Tryz.ntmps173
    go_wp2_with fail
    rw[<-HW.out]
    refine HC.out.mono ?_
    intro e w1 hh
    obtain⟨he,ha⟩:=hh.bad
    subst he
    clear hh
    have HA:=xQ (HI.out.aside.trans ha (fun _ _ h=>h))
    clear ha HC
    go_wp2
    rw[HR2.out]
    exact⟨rfl,rfl,HA.out⟩
  |ok xj=>
    obtain⟨x,j⟩:=xj
    have HR1:Hid (r=au (aV x (l.drop j)) fun b i=>.ok (.mk k 0 0 (textOf b) [],j+i)):=HR.out
    obtain⟨m,hm⟩:∃m,m=aV x (l.drop j):=⟨_,rfl⟩
    have HM:=xQ hm
    clear HR hm
    go_enter Tryz.func173,Tryz.ntmps173
    go_wp2_with fail
    rw[<-HW.out]
    refine HC.out.mono ?_
    intro e w1 hh
    obtain⟨v,he,hv,hrd,ha⟩:=hh.good
    clear hh
    replace hv:v=.int .i64 (x:Nat):=hv
    subst hv
    subst he
    have HI1:=xQ (HI.out.step ha hrd hR)
    clear ha hrd HC HW HI
    have HT:=xQ (jM x (l.drop j) A R w1.drew HI1.out.rd.drew)
    rw[<-HM.out] at HT HR1
    have k0:w1.cell? ⟨w.1.size,0,none⟩=some (.int .i64 k):=aa HI1.out.b0 0
    have q0:w1.cell? ⟨w.1.size+1,0,none⟩=some (.int .i64 0):=aa HI1.out.b1 0
    have qf0:w1.frozen? ⟨w.1.size+1,0,none⟩=false:=ac HI1.out.b1 0
    have q1:w1.cell? ⟨w.1.size+1,1,none⟩=some (.int .i64 0):=aa HI1.out.b1 1
    have qf1:w1.frozen? ⟨w.1.size+1,1,none⟩=false:=ac HI1.out.b1 1
    have q2:w1.cell? ⟨w.1.size+1,2,none⟩=some (.float .f64 0):=aa HI1.out.b1 2
    have qf2:w1.frozen? ⟨w.1.size+1,2,none⟩=false:=ac HI1.out.b1 2
    have q3:w1.cell? ⟨w.1.size+1,3,none⟩=some (.string ⟨#[]⟩):=aa HI1.out.b1 3
    have qf3:w1.frozen? ⟨w.1.size+1,3,none⟩=false:=ac HI1.out.b1 3
    have q4:w1.cell? ⟨w.1.size+1,4,none⟩=some (.slice none 0 0):=aa HI1.out.b1 4
    have qf4:w1.frozen? ⟨w.1.size+1,4,none⟩=false:=ac HI1.out.b1 4
    clear HM
    cases m with
    |error er=>
      have HR2:Hid (r=.error er):=HR1.out
      have hcv0:=dJ (w:=w1.drew) (p:=none) (l:=[]) (.inl rfl) 0
      simp only[List.length_nil] at hcv0
      clear HR1
      go_wp2_with fail
      go_region_law (first
        | (refine gA (.tmp 10) (.tmp 11) 208 3 (by rfl) (by rfl) (by rfl) (by rfl) Tryz.func192 (by kernel_rfl) (by rfl) HT.out (fun e w2 hh=>⟨_,hh.bad.1,rfl,by rw[HR2.out];exact⟨rfl,HI1.out.aside.drew.trans hh.bad.2 (fun _ _ h=>h)⟩⟩) (.slice none 0 0) ?_
           intro HF)
        | (refine br HF (.string ⟨#[]⟩) ?_)
        |fail)
      all_goals exact HF.out.elim
    |ok bi=>
      obtain⟨b,i⟩:=bi
      have HR2:Hid (r=.ok (.mk k 0 0 (textOf b) [],j+i)):=HR1.out
      clear HR1
      go_wp2_with fail
      go_region_law (first
        | (refine cV (.tmp 10) (.tmp 11) 208 3 (by rfl) (by rfl) (by rfl) (by rfl) Tryz.func192 (by kernel_rfl) (by rfl) HT.out ?_
           intro e w2 hh
           obtain⟨v,he,hv,hrd,ha⟩:=hh.good
           obtain⟨q,c2,hv,hat,-⟩:=hv.open
           clear hh
           subst hv
           refine⟨_,he,?_⟩
           clear he
           have hcv:=dJ hat c2
           have HI2:=xQ (HI1.out.drew.step ha hrd hR)
           clear ha hrd hat
           have k1:w2.cell? ⟨w.1.size,0,none⟩=some (.int .i64 k):=aa HI2.out.b0 0
           have t0:w2.cell? ⟨w.1.size+1,0,none⟩=some (.int .i64 0):=aa HI2.out.b1 0
           have tf0:w2.frozen? ⟨w.1.size+1,0,none⟩=false:=ac HI2.out.b1 0
           have t1:w2.cell? ⟨w.1.size+1,1,none⟩=some (.int .i64 0):=aa HI2.out.b1 1
           have tf1:w2.frozen? ⟨w.1.size+1,1,none⟩=false:=ac HI2.out.b1 1
           have t2:w2.cell? ⟨w.1.size+1,2,none⟩=some (.float .f64 0):=aa HI2.out.b1 2
           have tf2:w2.frozen? ⟨w.1.size+1,2,none⟩=false:=ac HI2.out.b1 2
           have t3:w2.cell? ⟨w.1.size+1,3,none⟩=some (.string ⟨#[]⟩):=aa HI2.out.b1 3
           have tf3:w2.frozen? ⟨w.1.size+1,3,none⟩=false:=ac HI2.out.b1 3
           have t4:w2.cell? ⟨w.1.size+1,4,none⟩=some (.slice none 0 0):=aa HI2.out.b1 4
           have tf4:w2.frozen? ⟨w.1.size+1,4,none⟩=false:=ac HI2.out.b1 4
           have HFin:=xQ (HI2.out.fin hR k 0 0 (textOf b)))
        |fail)
      all_goals
        go_wp2
        obtain⟨f1,f2,f3,f4⟩:=HFin.out
        refine bodyPost_ret (v:=.agg (cells5 k 0 0 (textOf b) none 0 0)) (results_cell_row rfl _ _ (w.1.size+1) _ _ _ _ rfl f1 Tryz.underlying47 rfl (by kernel_rfl)) rfl ?_
        rw[HR2.out]
        exact⟨_,rfl,f2,by rw[<-List.drop_drop];exact f3,f4⟩
theorem oZ{j:Nat}(h:Sch.text 1024 2 l=.ok (t,j)):t.size<=1024:=by
 unfold Sch.text at h
 split at h
 ·cases h
 ·next n k hn=>
  split at h
  ·cases h
  ·next h0=>
   split at h
   ·cases h
   ·next h1=>
    injection h with h
    injection h with h2 h3
    subst h2
    show(textOf _).size<=1024
    have:(textOf ((l.drop k).take n)).size=((l.drop k).take n).length:=by simp[textOf,ByteArray.size]
    rw[this,List.length_take]
    omega
theorem pn(l:L8)(A R:Nat)(w:World)(p:OA)(n c:Nat)(h:aC L w A R l):Calls Tryz.prog 172 #[.pointer (some ⟨R,0,none⟩),.agg #[.int .i64 4,.slice p n c]] w (bP L w A R l (Sch.scalar 4 l) (isV w)):=by
 have hR:=h.lt
 obtain⟨W,hW⟩:∃W,W=(w.alloc (.cells #[.int .i64 4,.slice p n c] 88)).alloc (.cells #[.int .i64 0,.int .i64 0,.float .f64 0,.string ⟨#[]⟩,.slice none 0 0] 47):=⟨_,rfl⟩
 have HI:Hid (ba L w W A R #[.int .i64 4,.slice p n c] l):=by rw[hW];exact bl _ h
 have HW:=xQ hW
 obtain⟨r,hr⟩:∃r,r=Sch.scalar 4 l:=⟨_,rfl⟩
 have HR:=xQ (hr.trans (lm l))
 rw[<-hr]
 have HC:=xQ (iq 4 l A R W p n c HI.out.rd)
 unfold gj at HC
 obtain⟨m,hm⟩:∃m,m=Sch.text 1024 2 l:=⟨_,rfl⟩
 have HM:=xQ hm
 rw[<-hm] at HR HC
 clear hr hm h hW
 cases m with
 |error er=>
  have HR2:Hid (r=.error er):=HR.out
  rw[kY] at HC
  clear HR
  go_enter Tryz.func172,Tryz.ntmps172
  go_wp2_with fail
  rw[<-HW.out]
  refine HC.out.mono ?_
  intro e w1 hh
  obtain⟨he,ha⟩:=hh.bad
  subst he
  clear hh
  have HA:=xQ (HI.out.aside.trans ha (fun _ _ h=>h))
  clear ha HC
  go_wp2
  rw[HR2.out]
  exact⟨rfl,rfl,HA.out⟩
 |ok xj=>
  obtain⟨x,j⟩:=xj
  have hx:=oZ HM.out.symm
  have HR2:Hid (r=if dB x=false then .error 61 else .ok (.mk 4 0 0 x [],j)):=HR.out
  rw[aG] at HC
  clear HR
  go_enter Tryz.func172,Tryz.ntmps172
  go_wp2_with fail
  rw[<-HW.out]
  refine HC.out.mono ?_
  intro e w1 hh
  obtain⟨v,he,hv,hrd,ha⟩:=hh.good
  obtain⟨u,hv,hown⟩:=hv.open
  clear hh
  subst hv
  subst he
  obtain⟨p5,c5,hu,-⟩:=hown.lies.open
  subst hu
  have HI1:=xQ (HI.out.step ha hrd hR)
  obtain⟨wa,hwa⟩:∃wa,wa=w1.alloc (.cells (cells5 4 0 0 x p5 0 c5) 47):=⟨_,rfl⟩
  have HBa:Hid (Below w1.1.size w1 wa):=by rw[hwa];exact xY
  have hblk:wa.1[w1.1.size]?=some (.cells (cells5 4 0 0 x p5 0 c5) 47 (0,0)):=by rw[hwa];exact ap w1 _
  have HBk:=xQ hblk
  have HU:=xQ (uG x (by omega) wa)
  have HWa:=xQ hwa
  have hsw:w.1.size+2<=w1.1.size:=HI1.out.size
  clear ha hrd hown hwa hblk HC HI HW HM
  unfold cells5 at HWa HBk ⊢
  obtain⟨ub,hub⟩:∃b,b=dB x:=⟨_,rfl⟩
  rw[<-hub] at HU HR2
  clear hub
  go_wp2_with fail
  rw[<-HWa.out]
  refine HU.out.mono ?_
  rintro e w2 ⟨rfl,hb2⟩
  have HI2:=xQ ((HI1.out.on HBa.out).on hb2)
  have hs2:=hb2.size
  have hsa:=HBa.out.size
  have hbk2:w2.1[w1.1.size]?=some (.cells (cells5 4 0 0 x p5 0 c5) 47 (0,0)):=by
   rw[hb2.block _ (ao HBk.out)]
   exact HBk.out
  obtain⟨v0,v1,v2,v3,v4⟩:=cQ5 hbk2
  have t0:w2.cell? ⟨w.1.size+1,0,none⟩=some (.int .i64 0):=aa HI2.out.b1 0
  have tf0:w2.frozen? ⟨w.1.size+1,0,none⟩=false:=ac HI2.out.b1 0
  have t1:w2.cell? ⟨w.1.size+1,1,none⟩=some (.int .i64 0):=aa HI2.out.b1 1
  have tf1:w2.frozen? ⟨w.1.size+1,1,none⟩=false:=ac HI2.out.b1 1
  have t2:w2.cell? ⟨w.1.size+1,2,none⟩=some (.float .f64 0):=aa HI2.out.b1 2
  have tf2:w2.frozen? ⟨w.1.size+1,2,none⟩=false:=ac HI2.out.b1 2
  have t3:w2.cell? ⟨w.1.size+1,3,none⟩=some (.string ⟨#[]⟩):=aa HI2.out.b1 3
  have tf3:w2.frozen? ⟨w.1.size+1,3,none⟩=false:=ac HI2.out.b1 3
  have t4:w2.cell? ⟨w.1.size+1,4,none⟩=some (.slice none 0 0):=aa HI2.out.b1 4
  have tf4:w2.frozen? ⟨w.1.size+1,4,none⟩=false:=ac HI2.out.b1 4
  have HFin:=xQ (iF (F:=fun _=>False) hR (by omega) HI2.out.b1 (aR.none (k:=4) (i:=0) (b:=0) (t:=x) (p:=p5) (c:=c5)) (fun _ h=>h.elim) HI2.out.rd HI2.out.aside)
  clear hb2 hbk2 HWa HU
  cases ub with
  |false=>
   have HR4:Hid (r=.error 61):=HR2.out.trans (if_pos (by first | rfl | trivial))
   clear HR2
   go_wp2_with fail
   refine(cK _ 61 _).mono ?_
   rintro e w3 ⟨rfl,hw3⟩
   rw[hw3]
   clear hw3 w3
   go_wp2
   rw[HR4.out]
   exact⟨rfl,rfl,HI2.out.aside⟩
  |true=>
   have HR4:Hid (r=.ok (.mk 4 0 0 x [],j)):=HR2.out.trans (if_neg (by first | decide | simp))
   clear HR2
   go_wp2_with fail
   refine(cW _ 61 _).mono ?_
   rintro e w3 ⟨rfl,hw3⟩
   rw[hw3]
   clear hw3 w3
   go_wp2
   obtain⟨f1,f2,f3,f4⟩:=HFin.out
   refine bodyPost_ret (v:=.agg (cells5 4 0 0 x p5 0 c5)) (results_cell_row rfl _ _ (w.1.size+1) _ _ _ _ rfl f1 Tryz.underlying47 rfl (by kernel_rfl)) rfl ?_
   rw[HR4.out]
   exact⟨_,rfl,f2,f3,f4⟩
end
end
end Go.Proofs.YtceomhodhmcknaaGreatDoor
