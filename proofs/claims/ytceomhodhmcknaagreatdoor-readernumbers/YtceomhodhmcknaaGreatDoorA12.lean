import Derived.Test.YtceomhodhmcknaaGreatDoorB33
import Derived.DeepKeys4
import Derived.Deep.OwnRows
set_option maxRecDepth 100000
set_option maxHeartbeats 4000000
namespace Go.Proofs.YtceomhodhmcknaaGreatDoor
variable{i n:Nat}{w w' wr:World}{b:L8}
section
open Go.RowKit
def vX(w:World)(B:Nat)(v:Value)(ys:L8)(e:Ending)(w':World):Prop :=
 ∃q cap,e=.returned (.slice q ys.length cap)∧Has w' B (.slice q ys.length cap) ys∧Aside (fun k=>v.ownBlock=some k) w w'∧∀k,(Value.slice q ys.length cap).ownBlock=some k->v.ownBlock=some k∨w.1.size<=k
theorem qt{w1 w2 w3 w4:World}{v v2:Value}(h1:Below w.1.size w w1)(h2:Aside (fun k=>v.ownBlock=some k) w1 w2)(hv:∀k,v2.ownBlock=some k->v.ownBlock=some k∨w1.1.size<=k)(h3:Below w2.1.size w2 w3)(h4:Aside (fun k=>v2.ownBlock=some k) w3 w4):Aside (fun k=>v.ownBlock=some k) w w4:=by
 have a1:=ag h1 (fun k=>v.ownBlock=some k)
 have a2:=a1.trans h2 (fun _ _ h=>h)
 have a3:=a2.trans (ag h3 (fun k=>v.ownBlock=some k)) (fun _ _ h=>h)
 exact a3.trans h4 (fun i hi hc=>by
  rcases hv i hc with h | h
  ·exact h
  ·have:=h1.size;omega)
theorem ti(p l:L8)(B:Nat)(vp:Value)(q:OA)(c:Nat)(w:World)(hB:B<=w.1.size)(hp:p.length<=1000000)(hl:l.length<=2048)(hb:Has w B vp p)(hq:AtB w B q l):
    Calls Tryz.prog 71 #[vp,.slice q l.length c] w (vX w B vp (Blk.putL p l)):=by
  obtain⟨p0,cap,rfl,-,hcap⟩:=hb.at
  have HHas:=xQ hb
  have HQ:=xQ hq
  clear hb hq
  unfold Blk.putL
  by_cases h0:l=[]
  · rw[if_pos h0]
    subst h0
    go_enter Tryz.func71,Tryz.ntmps71
    go_wp2
    go_ret
    exact⟨p0,cap,rfl,HHas.out,Aside.refl _ _,fun k hk=>.inl hk⟩
  · rw[if_neg h0]
    have g0:((l.length:Int)==0)=false:=by
      rw[beq_eq_false_iff_ne]
      have:=List.length_pos_iff.2 h0
      omega
    have HP:Hid (∀z:Int,z=((2*l.length:Nat):Int)->Calls Tryz.prog 100 #[.int .u64 z] w fun e w'=>∃g cap,e=.returned (.slice (some ⟨g,0,none⟩) (Leb.put (2*l.length)).length cap)∧bU w' w.1.size g cap (Leb.put (2*l.length))∧Below w.1.size w w'):=fun z hz=>by
      subst hz;exact dS _ (by omega) w
    have hpl:=Leb.put_length_le (2*l.length)
    obtain⟨u,hu⟩:∃u,u=Leb.put (2*l.length):=⟨_,rfl⟩
    rw[<-hu] at HP hpl ⊢
    clear hu h0
    go_enter Tryz.func71,Tryz.ntmps71
    go_wp2_with fail
    refine(HP.out _ (by omega)).mono ?_
    rintro e w1 ⟨g,cap1,rfl,hm,hb1⟩
    have HM:=xQ hm
    have HB1:=xQ hb1
    have hB1:=hb1.size
    clear hm hb1
    go_wp2_with (first
      | (at_builtin
         refine aK (HHas.out.on HB1.out) HM.out.at (by omega) (by omega) rfl rfl rfl rfl rfl ?_
         intro ys q3 cap3 W HY hh ha hk
         have HB2:=xQ (aE ha (HHas.out.on HB1.out) (by omega))
         have HH:=xQ hh
         have hyl:ys.length<=1100000:=by rw[HY.out,List.length_append];omega
         have HQ2:=xQ ((HQ.out.keep (HB1.out.mono hB)).keep HB2.out)
         have hB2:=HB2.out.size
         have HA1:=xQ ha
         have HK1:=xQ hk
         clear ha hk hh)
      | (at_builtin
         refine aK HH.out HQ2.out.at_ (by omega) (by omega) rfl rfl rfl rfl rfl ?_
         intro zs q4 cap4 W2 HZ hh ha hk
         have HA2:=xQ ha
         have HK2:=xQ hk
         have HH2:=xQ hh
         clear ha hk hh))
    go_ret
    have e:zs=p++(u++l):=by rw[HZ.out,HY.out,List.append_assoc]
    rw[<-e]
    refine⟨q4,cap4,rfl,HH2.out,qt HB1.out HA1.out HK1.out xZ HA2.out,fun k hk=>?_⟩
    rcases HK2.out k hk with h | h
    · rcases HK1.out k h with h | h
      · exact .inl h
      · exact .inr (by omega)
    · exact .inr (by omega)
end
section
open Go.RowKit Go.Maps
end
section
open Go.RowKit Go.Maps
theorem wV:(Tryz.prog.info? 3).map (fun i=>(i.zero,i.size,i.bytes))=some (some (.int .i64 0),1,8):=by kernel_rfl
theorem jZ(n:Int)(w:World):(Instr.makeMap 190 (some (.int .i64 n))).run Tryz.prog w=.ok (.map (some w.1.size)) (w.alloc (.map #[] 0)):=by
 simp[Instr.makeMap,run_underlying Tryz.underlying190,asInt,asIntOf]
structure oP(w:World)(M n:Nat)(b:L8)(i:Nat):Prop where
 out:∃D:DataW Unit,w.ownsMap Tryz.prog 192 (plainElem Tryz.prog 3) M n D∧∀f:L8,f.length=4->D.atKey (.string f) (.lit (.int .i64 0))=.lit (.int .i64 (Blk.last b f i:Nat))
theorem oP.keep{M:Nat}(h:oP w M n b i)(hb:w'.1[M]?=w.1[M]?):oP w' M n b i:=by
 obtain⟨D,⟨es,clock,h1,h2⟩,h3⟩:=h.out
 exact⟨D,⟨es,clock,hb.trans h1,h2⟩,h3⟩
structure Seen(w wr:World)(b:L8)(i:Nat):Prop where
 low:Below w.1.size w wr
 map:oP wr w.1.size i b i
 row:wr.rowIs (w.1.size+1) 3 b.length (fun j=>.int .i64 ((if j<i then Blk.ahead b j else 0:Nat):Int))
 var:wr.rowIs (w.1.size+1+1) 191 1 (fun _=>.slice (some ⟨w.1.size+1,0,none⟩) b.length b.length)
theorem pM(b f:L8)(i:Nat):Blk.last b f (i+1)=if Blk.four b i=f then i+1 else Blk.last b f i:=rfl
theorem Seen.next{W:World}{D:DataW Unit}(h:Seen w wr b i)(hi:i+4<=b.length)(hD:∀f:L8,f.length=4->D.atKey (.string f) (.lit (.int .i64 0))=.lit (.int .i64 (Blk.last b f i:Nat)))(hM:Maps.IsMap D)(hW:W.ownsMap Tryz.prog 192 (plainElem Tryz.prog 3) w.1.size (i+1) (D.put (.string (Blk.four b i)) (.lit (.int .i64 ((i+1:Nat):Int)))))(hlow:Below w.1.size w W)(hrow:W.rowIs (w.1.size+1) 3 b.length (fun j=>if j=i then .int .i64 (Blk.ahead b i:Nat) else .int .i64 ((if j<i then Blk.ahead b j else 0:Nat):Int)))(hvar:W.rowIs (w.1.size+1+1) 191 1 (fun _=>.slice (some ⟨w.1.size+1,0,none⟩) b.length b.length)):Seen w W b (i+1):=by
 refine⟨hlow,⟨_,hW,fun f hf=>?_⟩,hrow.congr (fun j _=>?_),hvar⟩
 ·rw[pM]
  by_cases e:Blk.four b i=f
  ·subst e
   rw[if_pos rfl,Maps.atKey_put_same hM (by trivial)]
  ·rw[if_neg e,Maps.atKey_put_other (fun hc=>e (by injection hc with hc;exact hc.symm)),hD f hf]
 ·by_cases e:j=i
  ·subst e
   rw[if_pos rfl,if_pos (by omega)]
  ·rw[if_neg e]
   by_cases e2:j<i
   ·rw[if_pos e2,if_pos (by omega)]
   ·rw[if_neg e2,if_neg (by omega)]
theorem Seen.end(h:Seen w wr b i)(hi:¬i+4<=b.length):wr.rowIs (w.1.size+1) 3 b.length (fun j=>.int .i64 ((Blk.ahead b j:Nat):Int)):=by
 refine h.row.congr (fun j _=>?_)
 by_cases e:j<i
 ·rw[if_pos e]
 ·rw[if_neg e,show Blk.ahead b j=0 by unfold Blk.ahead;rw[if_neg (by omega)]]
structure xy(w:World)(G A:Nat)(b:L8):Prop where
 row:w.rowIs A 3 b.length (fun j=>.int .i64 ((Blk.ahead b j:Nat):Int))
 var:w.rowIs G 191 1 (fun _=>.slice (some ⟨A,0,none⟩) b.length b.length)
end
section
open Go.RowKit
structure gO(w:World)(G A n:Nat):Prop where
 row:w.rowIs A 3 n (fun _=>.int .i64 0)
 var:w.rowIs G 191 1 (fun _=>.slice (some ⟨A,0,none⟩) n n)
theorem gO.keep{G A B:Nat}(h:gO w G A n)(hb:Below B w w')(hG:G<B)(hA:A<B):gO w' G A n:=⟨h.row.of_block (hb.block A hA),h.var.of_block (hb.block G hG)⟩
theorem tq(b:L8)(q:OA)(c:Nat)(w:World)(hb:b.length<=3):
  Calls Tryz.prog 68 #[.slice q b.length c] w fun e w'=>e=.returned (.func (.func 98) #[] #[.pointer (some ⟨w.1.size+1+1,0,none⟩)])∧gO w' (w.1.size+1+1) (w.1.size+1) b.length∧Below w.1.size w w':=by
 have hmm:=jZ
 have hmk:∀w:World,(Instr.makeSlice 191 (.int .i64 b.length) (.int .i64 b.length)).run Tryz.prog w=.ok (.slice (some ⟨w.1.size,0,none⟩) b.length b.length) (w.alloc (.cells (madeCells #[.int .i64 0] b.length) 3)):=run_make_row' (P:=Tryz.prog) 191 3 (.int .i64 0) 8 Tryz.underlying191 wV rfl .i64 .i64 b.length (by omega) (by omega)
 obtain⟨W0,hW0⟩:∃W,W=(((w.alloc (.map #[] 0)).alloc (.cells (madeCells #[.int .i64 0] b.length) 3)).alloc (.cells #[.slice (some ⟨w.1.size+1,0,none⟩) b.length b.length] 191)):=⟨_,rfl⟩
 have s1:(w.alloc (.map #[] 0)).1.size=w.1.size+1:=by simp
 have s2:((w.alloc (.map #[] 0)).alloc (.cells (madeCells #[.int .i64 0] b.length) 3)).1.size=w.1.size+1+1:=by simp
 have HL:Hid (gO W0 (w.1.size+1+1) (w.1.size+1) b.length∧Below w.1.size w W0):=by
  rw[hW0]
  refine⟨⟨?_,?_⟩,(xY.alloc (by rw[s1];omega) _).alloc (by rw[s2];omega) _⟩
  ·have h:=World.rowIs_made (w.alloc (.map #[] 0)) (.int .i64 0) b.length 3
   rw[s1] at h
   exact h.alloc _
  ·have h:=World.rowIs_alloc ((w.alloc (.map #[] 0)).alloc (.cells (madeCells #[.int .i64 0] b.length) 3)) #[.slice (some ⟨w.1.size+1,0,none⟩) b.length b.length] 191 (fun _=>.slice (some ⟨w.1.size+1,0,none⟩) b.length b.length) (fun i hi=>by
    have:i=0:=by simp at hi;omega
    subst this;rfl)
   rw[s2] at h
   exact h
 have HW:=xQ hW0
 clear hW0 s1 s2
 go_enter Tryz.func68,Tryz.ntmps68
 go_wp2_with fail
 rw[<-HW.out]
 clear HW
 go_loopw [16] (fun v16 wr=>v16=.int .i64 0∧wr=W0) (fun _ _=>0)
 case atStart=>exact⟨rfl,rfl⟩
 case round=>
  obtain⟨rfl,rfl⟩:=hrel
  have g0:¬(0:Int)<(b.length:Int)-3:=by omega
  go_wp2
  go_ret
  exact⟨rfl,HL.out.1,HL.out.2⟩
theorem uI(n G A i:Nat)(w:World)(hi:i<n)(h:gO w G A n):
  Calls Tryz.prog 98 #[.int .i64 i,.pointer (some ⟨G,0,none⟩)] w fun e w'=>e=.returned (.int .i64 (-1))∧w'=w:=by
 have c0:=h.var.cell (i:=0) (by omega)
 have c1:=h.row.cell hi
 clear h
 go_enter Tryz.func98,Tryz.ntmps98
 go_wp2
 go_ret
 exact⟨rfl,rfl⟩
theorem rE(b:L8)(q:OA)(c G A a:Nat)(w:World)(hb:b.length<=3)(ha:a<b.length)(h:gO w G A b.length):
  Calls Tryz.prog 69 #[.slice q b.length c,.int .i64 a,.func (.func 98) #[] #[.pointer (some ⟨G,0,none⟩)]] w fun e w'=>e=.returned (.agg #[.int .i64 0,.int .i64 0])∧Below w.1.size w w':=by
 have hmin:min ((b.length:Int)-(a:Int)) 255=((b.length-a:Nat):Int):=by omega
 obtain⟨W0,hW0⟩:∃W0,W0=(w.alloc (.cells #[.int .i64 0,.int .i64 0] 153)).alloc (.cells #[.int .i64 0,.int .i64 0] 153):=⟨_,rfl⟩
 obtain⟨h0,h1,h2,h3⟩:=al2 w (.cells #[.int .i64 0,.int .i64 0] 153) (.cells #[.int .i64 0,.int .i64 0] 153)
 rw[<-hW0] at h0 h1 h2 h3
 have HC:=xQ (uI b.length G A a W0 ha (h.keep h2 h.var.lt h.row.lt))
 have H0:=xQ h0
 have HB:=xQ h2
 have c0:W0.cell? ⟨w.1.size+1,0,none⟩=some (.int .i64 0):=aa h1 0
 have c1:W0.cell? ⟨w.1.size+1,1,none⟩=some (.int .i64 0):=aa h1 1
 have c2:W0.cell? ⟨w.1.size,0,none⟩=some (.int .i64 0):=aa h0 0
 have c3:W0.cell? ⟨w.1.size,1,none⟩=some (.int .i64 0):=aa h0 1
 have f2:W0.frozen? ⟨w.1.size,0,none⟩=false:=by simp[World.frozen?,h0]
 have f3:W0.frozen? ⟨w.1.size,1,none⟩=false:=by simp[World.frozen?,h0]
 have HE:Hid (((W0.setCell ⟨w.1.size,0,none⟩ (.int .i64 0)).setCell ⟨w.1.size,1,none⟩ (.int .i64 0)).1[w.1.size]?=some (.cells #[.int .i64 0,.int .i64 0] 153 (0,0))):=al (al h0 0 _) 1 _
 have HW0:=xQ hW0
 clear hW0 h h0 h1 h2 h3
 go_enter Tryz.func69,Tryz.ntmps69
 go_wp2_with fail
 rw[<-HW0.out]
 refine HC.out.mono ?_
 rintro e w' ⟨rfl,hw⟩
 rw[hw]
 clear hw w' HC HW0
 go_wp2_with fail
 go_loopw [9] (fun v9 wr=>v9=.int .i64 (-1)∧wr=W0) (fun _ _=>0)
 case atStart=>exact⟨rfl,rfl⟩
 case round=>
  obtain⟨rfl,rfl⟩:=hrel
  go_wp2_with fail
  refine bodyPost_ret (results_cell_row rfl _ _ w.1.size _ _ _ _ rfl HE.out Tryz.underlying153 rfl (by kernel_rfl)) rfl ?_
  exact⟨rfl,(HB.out.setCell (p:=⟨w.1.size,0,none⟩) xX _).setCell (p:=⟨w.1.size,1,none⟩) xX _⟩
structure sJ(w w1 wr:World)(q:OA)(b:L8)(G A:Nat)(v:Value):Prop where
 low:Below w.1.size w w1
 more:Below w1.1.size w1 wr
 look:gO wr G A b.length
 at_:AtB wr w1.1.size q b
 has:Has wr w1.1.size v [1]
theorem lG(b:L8)(q:OA)(c:Nat)(w:World)(hb:b.length<=3)(hbc:b.length<=c)(hq:At w q b):
  Calls Tryz.prog 43 #[.slice q b.length c] w fun e w'=>∃q' cap,e=.returned (.slice q' (Blk.putL [1] b).length cap)∧Below w.1.size w w':=by
 have HLU:=xQ (tq b q c w hb)
 have HQ0:=xQ hq
 clear hq
 go_enter Tryz.func43,Tryz.ntmps43
 go_wp2_with fail
 refine HLU.out.mono ?_
 rintro e w1 ⟨rfl,hlk,hlow⟩
 obtain⟨G,hG⟩:∃G,G=w.1.size+1+1:=⟨_,rfl⟩
 obtain⟨A,hA⟩:∃A,A=w.1.size+1:=⟨_,rfl⟩
 rw[<-hG] at hlk ⊢
 rw[<-hA] at hlk
 have hGl:=hlk.var.lt
 have hAl:=hlk.row.lt
 have HS:Hid (sJ w w1 (w1.alloc (.cells #[.int .u8 1] 5)) q b G A (.slice (some ⟨w1.1.size,0,none⟩) 1 1)):=by
  have ha:Below w1.1.size w1 (w1.alloc (.cells #[.int .u8 1] 5)):=xY
  exact⟨hlow,ha,hlk.keep ha hGl hAl,((HQ0.out.on hlow).atB xX).keep ha,dm (B:=w1.1.size) [1] rfl xX (by decide)⟩
 clear hG hA hlk hlow HLU HQ0
 go_wp2_with fail
 generalize w1.alloc (.cells #[.int .u8 1] 5)=W0 at HS ⊢
 go_loopw [4,5,6] (fun v4 v5 v6 wr=>∃a:Nat,a<=b.length∧v4=.slice (some ⟨w1.1.size,0,none⟩) 1 1∧v5=.int .i64 0∧v6=.int .i64 a∧Hid (sJ w w1 wr q b G A (.slice (some ⟨w1.1.size,0,none⟩) 1 1))) (fun _ _ v6 _=>b.length-(intOf v6).toNat)
 case atStart=>exact⟨0,Nat.zero_le _,rfl,rfl,rfl,HS⟩
 case round=>
  obtain⟨a,hab,rfl,rfl,rfl,HT⟩:=hrel
  clear HS
  by_cases hlt:a<b.length
  ·have HLo:=xQ (rE b q c G A a wr hb hlt HT.out.look)
   have hlt':(a:Int)<(b.length:Int):=by omega
   go_wp2_with fail
   refine HLo.out.mono ?_
   rintro e w2 ⟨rfl,hb2⟩
   have HN:Hid (sJ w w1 (w2.alloc (.cells #[.int .i64 0,.int .i64 0] 153)) q b G A (.slice (some ⟨w1.1.size,0,none⟩) 1 1)):=by
    have h1:=hb2.alloc hb2.size (.cells #[.int .i64 0,.int .i64 0] 153)
    have h2:=h1.mono HT.out.more.size
    exact⟨HT.out.low,HT.out.more.trans h2,HT.out.look.keep h2 hGl hAl,HT.out.at_.keep h2,HT.out.has.on h1⟩
   clear hb2 HLo
   go_wp2
   go_roundw
   case rel=>exact⟨a+1,by omega,rfl,rfl,by go_num,HN⟩
   case measure=>simp[intOf];omega
  ·obtain rfl:a=b.length:=by omega
   have hjn:¬(b.length:Int)<(b.length:Int):=by omega
   have s2:∀w,(Instr.slice 22 (.slice q b.length c) (some (.int .i64 0)) none none).run Tryz.prog w=.ok (.slice (cD q 0 c) (b.length-0) (c-0)) w:=fun w=>cF .i64 q b.length c 0 (by omega) w
   have HPL:=xQ (ti [1] b w1.1.size (.slice (some ⟨w1.1.size,0,none⟩) 1 1) (cD q 0 c) (c-0) wr HT.out.more.size (by decide) (by omega) HT.out.has (HT.out.at_.cut 0 c hbc))
   rw[Nat.sub_zero] at s2 HPL
   obtain⟨q2,hq2⟩:∃q2,q2=cD q 0 c:=⟨_,rfl⟩
   rw[<-hq2] at s2 HPL
   clear hq2 hlt
   go_wp2_with fail
   refine HPL.out.mono ?_
   rintro e w4 ⟨q4,cap4,rfl,hh4,ha4,-⟩
   have HB4:=xQ (aE ha4 HT.out.has HT.out.more.size)
   clear hh4 ha4
   go_wp2
   go_ret
   exact⟨q4,cap4,rfl,HT.out.low.trans ((HT.out.more.mono HT.out.low.size).trans (HB4.out.mono HT.out.low.size))⟩
theorem py(b:L8):b.length<(Blk.putL [1] b).length:=by
 unfold Blk.putL
 cases b with
 |nil=>simp
 |cons x b=>simp;omega
theorem wD(b:L8)(q:OA)(c:Nat)(w:World)(hb:b.length<=3)(hbc:b.length<=c)(hq:At w q b):
    Calls Tryz.prog 27 #[.slice q b.length c] w (sO w ⟨0,0::b⟩):=by
  have HP:=xQ (lG b q c w hb hbc hq)
  have HQ:=xQ hq
  have hlt:=py b
  obtain⟨p,hp⟩:∃p,p=Blk.putL [1] b:=⟨_,rfl⟩
  rw[<-hp] at HP hlt
  clear hp hq
  go_enter Tryz.func27,Tryz.ntmps27
  go_wp2_with fail
  refine HP.out.mono ?_
  rintro e w1 ⟨q1,cap1,rfl,hb1⟩
  have HB:=xQ hb1
  have hs1:=hb1.size
  clear hb1
  have HL:Hid (Has (w1.alloc (.cells #[.int .u8 0] 5)) w1.1.size (.slice (some ⟨w1.1.size,0,none⟩) 1 1) [0]):=dm (B:=w1.1.size) [0] rfl xX (by decide)
  have HA:Hid (At (w1.alloc (.cells #[.int .u8 0] 5)) q b):=(HQ.out.on HB.out).on xY
  have HB2:Hid (Below w.1.size w (w1.alloc (.cells #[.int .u8 0] 5))):=HB.out.alloc hs1 _
  have h1:¬p.length<=b.length:=by omega
  go_wp2_with (first
    | (at_builtin
       refine aK (xs:=[0]) HL.out HA.out (by simp;omega) (by simp) rfl rfl rfl rfl rfl ?_
       intro ys q3 cap3 W HY hh ha hk
       have HH3:=xQ hh
       have HA3:=xQ (aE ha HL.out (by simp))
       clear hh ha hk)
    |fail)
  go_ret2
  have e:ys=0::b:=HY.out
  rw[e] at HH3
  rw[e]
  exact⟨q3,_,cap3,rfl,rfl,HH3.out.lower hs1,HB2.out.trans (HA3.out.mono hs1)⟩
end
end Go.Proofs.YtceomhodhmcknaaGreatDoor
