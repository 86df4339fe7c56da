import Derived.Test.YtlgfdgdlaahpfaaGreatDoorA2
set_option maxRecDepth 100000
set_option maxHeartbeats 8000000
namespace Go.Proofs.YtlgfdgdlaahpfaaGreatDoor
section
open Go.RowKit Go.Maps
namespace Sc
def resumes(es:List Ent)(k:Int)(n:Int)(c:List Col):Bool:=decide (0<=k∧k<(es.length:Int))&&Fr.within Fr.N n&&decide (Sch.err c=0)&&(es.take (k.toNat+1)).all Fr.entOk
def resume(es:List Ent)(k:Nat)(e:Ent)(n:Int)(c:List Col):Wk:={ learn new n c e.sch with frames:=4*(k:Int),rows:=e.row,ents:=es.take k }
theorem ent_parts{e:Ent}(h:Fr.entOk e=true):(0<=e.at_∧e.at_<1099511627776)∧(0<=e.row∧e.row<1099511627776)∧(0<=e.sch∧e.sch<1099511627776):=by
 unfold Fr.entOk Fr.within Fr.S at h
 simp only[Bool.and_eq_true,decide_eq_true_eq] at h
 exact⟨h.1.1,h.1.2,h.2⟩
theorem good_resume{es:List Ent}{k:Nat}{e:Ent}{n:Int}{c:List Col}(hk:k<=5864062014634)(he:Fr.entOk e=true)(hes:∀e∈es.take k,Fr.entOk e=true)(hn:0<=n∧n<2147483648)(hc:Sch.err c=0)(hw:∀x∈c,x.wf):Good (resume es k e n c):=by
 obtain⟨-,h2,h3⟩:=ent_parts he
 have hg:=good_learn good_new n c e.sch hn (by show(-1:Int)<=n;omega) hc hw h3
 refine⟨hg.number,⟨Int.le_refl _,?_⟩,?_,?_,?_,?_,hg.known,hg.has⟩
 ·show(0:Int)<=4*(k:Int);omega
 ·show 4*(k:Int)<=70368744177664;omega
 ·show 0<=e.row∧e.row<=1099511627840;omega
 ·show(es.take k).length*24<=_
  have:=List.length_take_le k es
  omega
 ·intro x hx
  obtain⟨a,b,d⟩:=ent_parts (hes x hx)
  exact⟨i64_of a,i64_of b,i64_of d⟩
end Sc
section
variable {w:World} {B a M n:Nat} {v:Value} {g:Int->Option Value} {s:Wk} {G:Nat->Prop}
theorem ap.down{B':Nat}(h:ap w B a M n v g s G)(hB:B'<=B):ap w B' a M n v g s G:=⟨h.lies,h.map,h.ents.low hB,⟨Nat.le_trans hB h.base.1,Nat.le_trans hB h.base.2⟩,h.good,h.low,h.off,h.sch⟩
theorem ap.reents{w1:World}{q:OA}{m cap:Nat}{es:List Ent}{s':Wk}(h:ap w B a M n v g s G)(hn:aT w1 B (.slice q m cap) es)(ha:Aside (fun k=>v.ownBlock=some k) w w1)(h4:∀k,(Value.slice q m cap).ownBlock=some k->v.ownBlock=some k∨w.1.size<=k)(hs:s'={ s with ents:=es })(hgd:Sc.Good s'):
  ap (w1.setCell ⟨a,5,none⟩ (.slice q m cap)) B a M n (.slice q m cap) g s' G∧Aside (cm a M v) w (w1.setCell ⟨a,5,none⟩ (.slice q m cap)):=by
 have hl1:w1.1[a]?=some (.cells (bi M s v) 68):=(ha.block a h.lt h.va).trans h.lies
 have hs1:Aside (fun k=>k=a) w1 (w1.setCell ⟨a,5,none⟩ (.slice q m cap)):=(Aside.refl (fun k=>k=a) w1).setCell (p:=⟨a,5,none⟩) (.inl rfl) _
 have hA:Aside (cm a M v) w (w1.setCell ⟨a,5,none⟩ (.slice q m cap)):=(ha.mono fun i _ hi=>.inr (.inr hi)).trans hs1 (fun i _ hi=>.inl hi)
 have hal:=h.lt
 have hMl:=h.map.lt
 subst hs
 refine⟨⟨kt hl1 5 _ rfl,?_,?_,h.base,hgd,fun k hk=>Nat.lt_of_lt_of_le (h.low k hk) hA.size,fun k hk=>⟨(h.off k hk).1,(h.off k hk).2.1,fun hc=>?_⟩,fun m=>?_⟩,hA⟩
 ·refine h.map.keep ?_
  rw[hs1.block M (Nat.lt_of_lt_of_le h.map.lt ha.size) (fun hc=>h.aM hc.symm)]
  exact ha.block M h.map.lt h.vM
 ·refine hn.aside hs1 (fun k hk hc=>?_)
  rcases h4 k hk with h5 | h5
  ·exact h.va (by rw[h5,hc])
  ·omega
 ·rcases h4 k hc with h5 | h5
  ·exact(h.off k hk).2.2 h5
  ·have:=h.low k hk;omega
 ·refine(h.sch m).step (hA.mono fun i _ hi=>.inl hi) fun i hi=>?_
  rcases hi with (hi | hi | hi) | hi
  ·exact .inl (.inl (.inl hi))
  ·exact .inl (.inl (.inr (.inl hi)))
  ·rcases h4 i hi with h5 | h5
   ·exact .inl (.inl (.inr (.inr h5)))
   ·exact .inr h5
  ·exact .inl (.inr hi)
theorem sL(h:ap w B a M n v g s G)(m:Int)(c:List Col)(p:OA)(cc:Nat)(pl:Int)(hm:0<=m∧m<2147483648)(hle:s.number<=m)(hpl:0<=pl∧pl<1099511627776)(he:Sch.err c=0)(hwf:∀x∈c,x.wf)(hs:c.length*120<=140737488351232)(hx:aQ w p c)(hn:n<1000000000):
  Calls Tryz.prog 46 #[.pointer (some ⟨a,0,none⟩),.int .i64 m,.agg #[.slice p c.length cc],.int .i64 pl] w fun e w'=>e=.returned (.tuple #[])∧(∃g',ap w' B a M (n+1) v g' (Sc.learn s m c pl) G)∧Aside (cm a M v) w w':=by
 have c0:w.cell? ⟨a,0,none⟩=some (.map (some M)):=h.cell 0
 obtain⟨W0,hW0⟩:∃W0,W0=w.alloc (.cells #[.slice p c.length cc] 30):=⟨_,rfl⟩
 have hb0:Below w.1.size w W0:=by rw[hW0];exact vY
 have hbk:W0.1[w.1.size]?=some (.cells #[.slice p c.length cc] 30):=by rw[hW0];exact af w _
 have y0:W0.cell? ⟨a,0,none⟩=some (.map (some M)):=ab hb0 c0
 have y1:W0.cell? ⟨w.1.size,0,none⟩=some (.slice p c.length cc):=aa hbk 0
 have hz0:W0.1.size=w.1.size+1:=by rw[hW0];simp
 have HW0:Hid (w.alloc (.cells #[.slice p c.length cc] 30)=W0):=hW0.symm
 have HH:=vQ (h.on hb0)
 have HB0:=vQ hb0
 have HC:Hid (∀w',Below W0.1.size W0 w'->Calls Tryz.prog 51 #[.agg #[.slice p c.length cc]] w' fun e w''=>∃q cap,e=.returned (.agg #[.slice q c.length cap])∧cE w'' W0.1.size #[.slice q c.length cap] (c.map Col.fix)∧Below W0.1.size W0 w''):=fun w' hb=>(jT c p cc w' hs (hx.on (hb0.trans (hb.mono hb0.size))) he hwf).mono fun e w'' ⟨q,cap,h1,h2,h3⟩=>⟨q,cap,h1,dB h2 hb.size,hb.trans (h3.mono hb.size)⟩
 have HGd:=vQ (Sc.good_learn h.good m c pl hm hle he hwf hpl)
 have hal:=h.lt
 have hMl:=h.map.lt
 have haM:=h.aM
 have him:Fr.i64 m:=⟨by omega,by omega⟩
 have HX:Hid (∀i,(i=a∨i=M∨v.ownBlock=some i)∨G i->i<W0.1.size):=fun i hi=>by
  rcases hi with (hi | hi | hi) | hi
  ·omega
  ·omega
  ·have:=(h.ents.lt i hi).2;omega
  ·have:=h.low i hi;omega
 clear h hx he hwf hW0 hb0 hbk c0
 go_enter Tryz.func46,Tryz.ntmps46
 go_wp2_with fail
 rw[HW0.out]
 go_region_held3 (fun w'=>w'.cell? ⟨a,0,none⟩=some (.map (some M))∧w'.cell? ⟨w.1.size,0,none⟩=some (.slice p c.length cc)) (go_keep) (first
  | (go_at_call 51;refine(HC.out _ (vZ.drew)).mono ?_;rintro e w1 ⟨q,cap,rfl,ho,hb1⟩;have z0:=ab hb1 y0;have z1:=ab hb1 y1;have HO:=vQ ho;have HB1:=vQ hb1;obtain⟨w2,hr2,hk2,ha2,hs2⟩:=(HH.out.on HB1.out).map.put him hn (.agg #[.slice q c.length cap,.int .i64 pl]);have t0:=Below.aside_cell ha2 (by have:=HB1.out.size;show a<w1.1.size;omega) haM z0;have t1:=Below.aside_cell ha2 (by have:=HB1.out.size;show w.1.size<w1.1.size;omega) (by show ¬w.1.size=M;omega) z1;have HK2:=vQ hk2;have HA2:=vQ ha2;clear ho hb1 hk2 ha2)
  |fail)
 have hw1:=HH.out.on HB1.out
 obtain⟨hfin,hasd⟩:=hw1.learned HK2.out HA2.out HO.out HX.out HGd.out
 have HFin:=vQ hfin
 have HAs:=vQ ((ae (HB0.out.trans (HB1.out.mono HB0.out.size)) (cm a M v)).trans hasd (fun _ _ h=>h))
 have hl2:w2.1[a]?=some (.cells (bi M s v) 68):=(HA2.out.block a hw1.lt haM).trans hw1.lies
 have u1:w2.cell? ⟨a,1,none⟩=some (.int .i64 s.number):=aa hl2 1
 have u2:w2.cell? ⟨a,2,none⟩=some (.int .i64 s.since):=aa hl2 2
 have f1:=ac hl2 1
 have f2:=ac hl2 2
 clear hw1 hfin hasd hl2 HO HK2 HA2 HB1 HH
 go_wp2
 go_end0
 exact⟨rfl,⟨_,HFin.out⟩,HAs.out⟩
end
theorem pN(n:Int)(w:World):Calls Tryz.prog 44 #[.int .i64 n] w fun e w'=>e=.returned (.bool (Fr.within Fr.N n))∧w'=w:=by
 obtain⟨R,hR⟩:∃R,R=Fr.within Fr.N n:=⟨_,rfl⟩
 rw[<-hR]
 by_cases h0:0<=n
 ·by_cases h1:n<2147483648
  ·have HR:Hid (R=true):=by show R=true;rw[hR];exact decide_eq_true ⟨h0,h1⟩
   clear hR
   go_enter Tryz.func44,Tryz.ntmps44
   go_wp2
   go_ret
   exact⟨by rw[HR.out];rfl,rfl⟩
  ·have HR:Hid (R=false):=by show R=false;rw[hR];exact decide_eq_false fun h=>h1 h.2
   have g1:decide (n<2147483648)=false:=decide_eq_false h1
   clear hR
   go_enter Tryz.func44,Tryz.ntmps44
   go_wp2
   go_ret
   exact⟨by rw[HR.out];rfl,rfl⟩
 ·have HR:Hid (R=false):=by show R=false;rw[hR];exact decide_eq_false fun h=>h0 h.1
  have g1:decide (0<=n)=false:=decide_eq_false h0
  clear hR
  go_enter Tryz.func44,Tryz.ntmps44
  go_wp2
  go_ret
  exact⟨by rw[HR.out];rfl,rfl⟩
theorem jb{l:List Ent}{p:OA}{c:Nat}{w:World}(h:bQ w p l)(hlen:l.length*24<=140737488351232){o:Oper}{a:Act}{K:Act->World->Prop}{Q:Exit->Act->World->Prop}(y x:Operand)(ht:o.type=32)(hop:o.op=Op.call { callee:=Callee.builtin Builtin.append,args:=#[y,x],argTypes:=#[32,32] })(hs:a.eval y=.slice none 0 0)(hx:a.eval x=.slice p l.length c)(hK:∀q cap W,aT W w.1.size (.slice q l.length cap) l->Below w.1.size w W->K (a.put o.dst (.slice q l.length cap)) W):
  Oper.wp Tryz.prog o a w K Q:=by
 obtain⟨q,cap,W,hr,hm,ha,-,hb⟩:=jk w.1.size (.slice none 0 0) [] l p c w (cY w _) h (by simp;omega) vX
 have hr:=hr.run
 rw[List.nil_append] at hr hm
 unfold Oper.wp
 simp[execOp,hop,resolve,invoke,builtin,hs,hx,ht,hr,Result.andThen]
 exact hK q cap W hm (ha.below vX (fun i hi hc=>by simp[Value.ownBlock] at hc))
def nl(w:World)(es:List Ent)(k n:Int)(c:List Col)(e:Ending)(w':World):Prop:=Below w.1.size w w' ∧
 if Sc.resumes es k n c=true then ∃(m:Nat) (en:Ent) (a M:Nat) (v:Value) (g:Int->Option Value),k=(m:Nat)∧es[m]?=some en∧e=.returned (.pointer (some ⟨a,0,none⟩))∧ap w' w.1.size a M 1 v g (Sc.resume es m en n c) (fun _=>False) else e=.returned (.pointer none)
theorem su{w w':World}{es:List Ent}{k n:Int}{c:List Col}(hb:Below w.1.size w w')(h:Sc.resumes es k n c=false):nl w es k n c (.returned (.pointer none)) w':=by
 unfold nl
 rw[h]
 exact⟨hb,rfl⟩
theorem gW{es:List Ent}{k n:Int}{c:List Col}(h:¬((0<=k∧k<(es.length:Int))∧Fr.within Fr.N n=true∧Sch.err c=0)):Sc.resumes es k n c=false:=by
 rw[Bool.eq_false_iff]
 intro hc
 unfold Sc.resumes at hc
 simp only[Bool.and_eq_true,decide_eq_true_eq] at hc
 exact h ⟨hc.1.1.1,hc.1.1.2,hc.1.2⟩
theorem oQ(w:World)(es:List Ent)(ep:OA)(ec:Nat)(hel:es.length*24<=140737488351232)(hec:es.length<=ec)(he:bQ w ep es)(k n:Int)(hk:Fr.i64 k)(c:List Col)(p:OA)(cc:Nat)(hs:c.length*120<=140737488351232)(hx:aQ w p c)(hwf:∀x∈c,x.wf)(xa xf xr:Int):
  Calls Tryz.prog 12 #[.agg #[.int .i64 xa,.int .i64 xf,.int .i64 xr,.slice ep es.length ec],.int .i64 k,.agg #[.int .i64 n,.slice p c.length cc]] w (nl w es k n c):=by
 have HNo:=vQ (@su w (es:=es) (k:=k) (n:=n) (c:=c))
 have HRn:=vQ (@gW es k n c)
 have HE:=vQ he
 have HX:=vQ hx
 have HWf:=vQ hwf
 have hk1:=hk.1
 have hk2:=hk.2
 clear he hx hwf hk
 have HSm:=vQ (fun w'=>pN n w')
 obtain⟨W0,hW0⟩:∃W0,W0=(w.alloc (.cells #[.int .i64 xa,.int .i64 xf,.int .i64 xr,.slice ep es.length ec] 34)).alloc (.cells #[.int .i64 n,.slice p c.length cc] 44):=⟨_,rfl⟩
 have hb0:Below w.1.size w W0:=by rw[hW0];exact vY.alloc (by simp) _
 have hz0:w.1.size+2=W0.1.size:=by rw[hW0];simp
 have hbx:W0.1[w.1.size]?=some (.cells #[.int .i64 xa,.int .i64 xf,.int .i64 xr,.slice ep es.length ec] 34):=by
  rw[hW0,az _ _ (by simp)]
  exact af w _
 have hbs:W0.1[w.1.size+1]?=some (.cells #[.int .i64 n,.slice p c.length cc] 44):=by
  rw[hW0]
  have:=af (w.alloc (.cells #[.int .i64 xa,.int .i64 xf,.int .i64 xr,.slice ep es.length ec] 34)) (.cells #[.int .i64 n,.slice p c.length cc] 44)
  simpa using this
 have x3:W0.cell? ⟨w.1.size,3,none⟩=some (.slice ep es.length ec):=aa hbx 3
 have s0:W0.cell? ⟨w.1.size+1,0,none⟩=some (.int .i64 n):=aa hbs 0
 have s1:W0.cell? ⟨w.1.size+1,1,none⟩=some (.slice p c.length cc):=aa hbs 1
 have HB0:=vQ hb0
 have HZ0:=vQ (show w.1.size+1<W0.1.size by omega)
 have HW0:=vQ hW0.symm
 have HCk:=vQ (sY c p cc W0 hs (HX.out.on hb0) HWf.out)
 clear hb0 hz0 hW0
 by_cases h0:0<=k
 case neg=>
  have g0:decide (k<0)=true:=decide_eq_true (by omega)
  have HF:=vQ (HNo.out W0 HB0.out (HRn.out fun h=>h0 h.1.1))
  go_enter Tryz.func12,Tryz.ntmps12
  go_wp2
  go_ret
  rw[HW0.out]
  exact HF.out
 have g0:decide (k<0)=false:=decide_eq_false (by omega)
 by_cases h1:k<(es.length:Int)
 case neg=>
  have g1:decide ((es.length:Int)<=k)=true:=decide_eq_true (by omega)
  have HF:=vQ (HNo.out W0 HB0.out (HRn.out fun h=>h1 h.1.2))
  go_enter Tryz.func12,Tryz.ntmps12
  go_wp2
  go_ret
  rw[HW0.out]
  exact HF.out
 have g1:decide ((es.length:Int)<=k)=false:=decide_eq_false (by omega)
 by_cases hsm:Fr.within Fr.N n=true
 case neg=>
  have HF:=vQ (HNo.out W0 HB0.out (HRn.out fun h=>hsm h.2.1))
  have hsf:Fr.within Fr.N n=false:=by simpa using hsm
  rw[hsf] at HSm
  clear hsm hsf
  go_enter Tryz.func12,Tryz.ntmps12
  go_wp2_with fail
  rw[HW0.out]
  refine(HSm.out W0).mono ?_
  rintro e w' ⟨rfl,hw'⟩
  rw[hw']
  clear hw' w' HSm
  go_wp2
  go_ret
  exact HF.out
 rw[hsm] at HSm
 obtain⟨er,her⟩:∃er,er=Sch.err c:=⟨_,rfl⟩
 rw[<-her] at HCk
 by_cases he0:er=0
 case neg=>
  have HF:Hid (∀w',Below w.1.size w w'->nl w es k n c (.returned (.pointer none)) w'):=fun w' hb=>HNo.out w' hb (HRn.out fun h=>he0 (by rw[her];exact h.2.2))
  have g2:((er:Int)==0)=false:=by rw[beq_eq_false_iff_ne];omega
  clear her he0
  go_enter Tryz.func12,Tryz.ntmps12
  go_wp2_with fail
  rw[HW0.out]
  refine(HSm.out W0).mono ?_
  rintro e w' ⟨rfl,hw'⟩
  rw[hw']
  clear hw' w' HSm
  go_wp2_with fail
  refine HCk.out.mono ?_
  rintro e w1 ⟨rfl,hb1⟩
  have HB1:=vQ (HB0.out.trans (hb1.mono HB0.out.size))
  clear hb1 HCk
  go_wp2
  go_ret
  exact HF.out _ HB1.out
 subst he0
 obtain⟨m,rfl⟩:∃m:Nat,k=(m:Nat):=⟨k.toNat,by omega⟩
 have hm:m<es.length:=by omega
 have HCs:Hid (Sch.err c=0):=her.symm
 clear her
 go_enter Tryz.func12,Tryz.ntmps12
 go_wp2_with fail
 rw[HW0.out]
 refine(HSm.out W0).mono ?_
 rintro e w' ⟨rfl,hw'⟩
 rw[hw']
 clear hw' w' HSm
 go_wp2_with fail
 refine HCk.out.mono ?_
 rintro e w1 ⟨rfl,hb1⟩
 have y3:=ab hb1 x3
 have t0:=ab hb1 s0
 have t1:=ab hb1 s1
 have HB1:=vQ (HB0.out.trans (hb1.mono HB0.out.size))
 have HZ1:=vQ (Nat.lt_of_lt_of_le HZ0.out hb1.size)
 have g1n:decide (es.length<=m)=false:=decide_eq_false (by omega)
 have hmI:(m:Int)<5864062014634:=by omega
 have f0:(m:Int)+1<=(ec:Int):=by omega
 clear hb1 HCk x3 s0 s1 hbx hbs HW0 HB0 HZ0
 go_wp2_with fail
 go_loopw [37] (fun v37 wr=>∃i:Nat,i<=m+1∧v37=.int .i64 (i:Nat)∧Hid ((es.take i).all Fr.entOk=true)∧Hid (Below w1.1.size w1 wr)) (fun v37 _=>m+1-(intOf v37).toNat)
 case atStart=>exact⟨0,by omega,rfl,rfl,vZ⟩
 case round=>
  obtain⟨i,hi,rfl,HT,HBr⟩:=hrel
  have hiI:(i:Int)<=5864062014634:=by omega
  by_cases hlt:i<m+1
  ·have f1:(i:Int)<(m:Int)+1:=by omega
   have hBr:=HB1.out.trans (HBr.out.mono HB1.out.size)
   obtain⟨b,o,rfl,hbl,k0,k1,k2⟩:=(HE.out.on hBr) i (by omega)
   have HOk:Hid ((es.take (i+1)).all Fr.entOk=Fr.entOk (es[i]'(by omega))):=by
    show _=_
    rw[List.take_succ_eq_append_getElem (by omega),List.all_append,HT.out]
    simp
   have HNo2:Hid (Fr.entOk (es[i]'(by omega))=false->Sc.resumes es (m:Nat) n c=false):=fun h=>by
    rw[Bool.eq_false_iff]
    intro hc
    unfold Sc.resumes at hc
    simp only[Bool.and_eq_true,decide_eq_true_eq,List.all_eq_true] at hc
    have:=hc.2 (es[i]'(by omega)) (List.mem_take_iff_getElem.2 ⟨i,by omega,rfl⟩)
    rw[h] at this
    exact Bool.noConfusion this
   have HEn:Hid (Fr.entOk (es[i]'(by omega))=[(es[i]'(by omega)).at_,(es[i]'(by omega)).row,(es[i]'(by omega)).sch].all (Fr.within Fr.S)):=by
    show _=_
    simp[Fr.entOk,Bool.and_assoc]
   generalize es[i]'(by omega)=en at k0 k1 k2 HOk HNo2 HEn
   have HLg:=vQ (qR (wr.1.size+1) 3 [en.at_,en.row,en.sch] (by simp) ((wr.alloc (.cells #[.int .i64 en.at_,.int .i64 en.row,.int .i64 en.sch] 64)).alloc (.cells #[.int .i64 en.at_,.int .i64 en.row,.int .i64 en.sch] 2)) (fun j hj=>by
    have hj3:j<3:=hj
    have hn:=af (wr.alloc (.cells #[.int .i64 en.at_,.int .i64 en.row,.int .i64 en.sch] 64)) (.cells #[.int .i64 en.at_,.int .i64 en.row,.int .i64 en.sch] 2)
    rw[show(wr.alloc (.cells #[.int .i64 en.at_,.int .i64 en.row,.int .i64 en.sch] 64)).1.size=wr.1.size+1 by simp] at hn
    match j,hj3 with
    |0,_=>exact aa hn 0
    |1,_=>exact aa hn 1
    |2,_=>exact aa hn 2))
   rw[<-HEn.out] at HLg
   have HB2:Hid (Below w1.1.size w1 ((wr.alloc (.cells #[.int .i64 en.at_,.int .i64 en.row,.int .i64 en.sch] 64)).alloc (.cells #[.int .i64 en.at_,.int .i64 en.row,.int .i64 en.sch] 2))):=(HBr.out.alloc HBr.out.size _).alloc (Nat.le_trans HBr.out.size (by simp)) _
   clear hBr hbl HBr HT HEn
   go_wp2_with fail
   refine HLg.out.mono ?_
   rintro e w2 ⟨rfl,hw2⟩
   rw[<-hw2] at HB2
   clear hw2 HLg
   cases hok:Fr.entOk en with
   |false=>
    have HF:=vQ (HNo.out w2 (HB1.out.trans (HB2.out.mono HB1.out.size)) (HNo2.out hok))
    clear hok HOk HNo2
    go_wp2
    go_ret
    exact HF.out
   |true=>
    rw[hok] at HOk
    clear hok HNo2
    go_wp2
    go_roundw
    case rel=>exact⟨i+1,by omega,by go_num,HOk,HB2⟩
    case measure=>simp[intOf];omega
  ·have f1:¬(i:Int)<(m:Int)+1:=by omega
   obtain rfl:i=m+1:=by omega
   have hBr:=HB1.out.trans (HBr.out.mono HB1.out.size)
   obtain⟨b,o,rfl,hbl,k0,k1,k2⟩:=(HE.out.on hBr) m hm
   have hall:=List.all_eq_true.1 HT.out
   have hen:es[m]?=some es[m]:=List.getElem?_eq_getElem hm
   have hok:Fr.entOk es[m]=true:=hall _ (List.mem_take_iff_getElem.2 ⟨m,by omega,rfl⟩)
   have hall2:∀e∈es.take m,Fr.entOk e=true:=fun e he=>hall e (List.take_subset_take_left _ (Nat.le_succ m) he)
   have HRs:Hid (Sc.resumes es (m:Nat) n c=true):=by
    show _=_
    unfold Sc.resumes
    rw[decide_eq_true (by omega),hsm,decide_eq_true HCs.out]
    exact HT.out
   have HEt:Hid (∀w',Below wr.1.size wr w'->bQ w' (some ⟨b,o,none⟩) (es.take m)):=fun w' hb j hj=>by
    have hj2:j<es.length:=by rw[List.length_take] at hj;omega
    have:=(HE.out.on (hBr.trans (hb.mono hBr.size))) j hj2
    rw[List.getElem_take]
    exact this
   have hmin:(es.take m).length=m:=by rw[List.length_take];omega
   generalize es[m]=en at k0 k1 k2 hen hok
   obtain⟨-,hrow,hsch⟩:=Sc.ent_parts hok
   have hnn:0<=n∧n<2147483648:=of_decide_eq_true hsm
   have hgd:=Sc.good_resume (es:=es) (k:=m) (n:=n) (c:=c) (by omega) hok hall2 hnn HCs.out HWf.out
   have hg3:=Sc.good_learn Sc.good_new n c en.sch hnn (by show(-1:Int)<=n;omega) HCs.out HWf.out hsch
   have HG4:Hid (Sc.Good { Sc.learn Sc.new n c en.sch with frames:=4*(m:Int) }):=⟨hgd.number,hgd.since,hgd.frames,hg3.rows,hg3.ents,hg3.entsOk,hg3.known,hg3.has⟩
   have HG5:Hid (Sc.Good { Sc.learn Sc.new n c en.sch with frames:=4*(m:Int),rows:=en.row }):=⟨hgd.number,hgd.since,hgd.frames,hgd.rows,hg3.ents,hg3.entsOk,hg3.known,hg3.has⟩
   have HGd:=vQ hgd
   have HEn:=vQ hen
   have HN:=vQ (qU wr (fun _=>False) (fun k hk=>hk.elim))
   have HBw:=vQ hBr
   have q3:=ab HBr.out y3
   have q0:=ab HBr.out t0
   have q1:=ab HBr.out t1
   have HLn:Hid (∀w2 w',ap w2 wr.1.size (wr.1.size+1) wr.1.size 0 (.slice none 0 0) (fun _=>none) Sc.new (fun _=>False)->Below wr.1.size wr w2->Below w2.1.size w2 w'->Calls Tryz.prog 46 #[.pointer (some ⟨wr.1.size+1,0,none⟩),.int .i64 n,.agg #[.slice p c.length cc],.int .i64 en.sch] w' fun e w3=>e=.returned (.tuple #[])∧(∃g',ap w3 wr.1.size (wr.1.size+1) wr.1.size 1 (.slice none 0 0) g' (Sc.learn Sc.new n c en.sch) (fun _=>False))∧Below wr.1.size wr w3):=fun w2 w' hk hb2 hb'=>by
    have hb3:=hb2.trans (hb'.mono hb2.size)
    refine(sL (hk.on hb') n c p cc en.sch hnn (by show(-1:Int)<=n;omega) hsch HCs.out HWf.out hs (HX.out.on (hBr.trans (hb3.mono hBr.size))) (by omega)).mono fun e w3 ⟨h1,h2,h3⟩=>⟨h1,h2,hb3.trans (h3.below hb3.size fun i hi hc=>?_)⟩
    rcases hc with hc | hc | hc
    ·omega
    ·omega
    ·simp[Value.ownBlock] at hc
   have hz1:w.1.size+1<wr.1.size:=Nat.lt_of_lt_of_le HZ1.out HBr.out.size
   have d1:¬w.1.size=wr.1.size+1:=by omega
   have d2:¬wr.1.size+1=w.1.size:=by omega
   have d3:¬b=wr.1.size+1:=by omega
   have d4:¬wr.1.size+1=b:=by omega
   have d5:¬w.1.size+1=wr.1.size+1:=by omega
   have d6:¬wr.1.size+1=w.1.size+1:=by omega
   have mI:(m:Int)<(es.length:Int):=by omega
   have m2:(m:Int)<=(ec:Int):=by omega
   clear hall hall2 hok hgd hg3 hen HT hBr hi hlt y3 t0 t1 HRn
   go_wp2_with fail
   refine HN.out.mono ?_
   rintro e w2 ⟨rfl,hk2,hb2,-⟩
   have r3:=ab hb2 q3
   have r0:=ab hb2 q0
   have r1:=ab hb2 q1
   have r5:=ab hb2 k2
   have HL2:=vQ (fun w'=>HLn.out w2 w' hk2 hb2)
   clear hk2 hb2 HN HLn
   go_wp2_with fail
   go_region_held3 (fun w'=>w'.cell? ⟨w.1.size,3,none⟩=some (.slice (some ⟨b,o,none⟩) es.length ec)∧w'.cell? ⟨w.1.size+1,0,none⟩=some (.int .i64 n)∧w'.cell? ⟨w.1.size+1,1,none⟩=some (.slice p c.length cc)∧w'.cell? ⟨b,o+m*3+2,none⟩=some (.int .i64 en.sch)) (go_keep) (first
    | (go_at_call 46;refine(HL2.out _ (vZ.drew)).mono ?_;rintro e w3 ⟨rfl,⟨g3,hk3⟩,hb3⟩;have u3:=ab hb3 q3;have u0:=ab hb3 q0;have u1:=ab hb3 q1;have u5:=ab hb3 k2;have HK3:=vQ hk3;have HB3:=vQ hb3;clear hk3 hb3)
    |fail)
   have v3:w3.cell? ⟨wr.1.size+1,3,none⟩=some (.int .i64 0):=HK3.out.cell 3
   have v4:w3.cell? ⟨wr.1.size+1,4,none⟩=some (.int .i64 0):=HK3.out.cell 4
   have v5:w3.cell? ⟨wr.1.size+1,5,none⟩=some (.slice none 0 0):=HK3.out.cell 5
   have z3:=HK3.out.thawed 3
   have z4:=HK3.out.thawed 4
   have z5:=HK3.out.thawed 5
   have u4:=ab HB3.out k1
   obtain⟨w5,hw5⟩:∃w5,(w3.setCell ⟨wr.1.size+1,3,none⟩ (.int .i64 (4*(m:Int)))).setCell ⟨wr.1.size+1,4,none⟩ (.int .i64 en.row)=w5:=⟨_,rfl⟩
   have hk5:ap w5 wr.1.size (wr.1.size+1) wr.1.size 1 (.slice none 0 0) g3 { Sc.learn Sc.new n c en.sch with frames:=4*(m:Int),rows:=en.row } (fun _=>False):=by
    rw[<-hw5]
    exact(HK3.out.put (s':={ Sc.learn Sc.new n c en.sch with frames:=4*(m:Int) }) 3 _ rfl rfl rfl HG4.out).put 4 _ rfl rfl rfl HG5.out
   have ha5:Aside (fun k=>k=wr.1.size+1) w3 w5:=by
    rw[<-hw5]
    exact((Aside.refl (fun k=>k=wr.1.size+1) w3).setCell (p:=⟨wr.1.size+1,3,none⟩) (.inl rfl) _).setCell (p:=⟨wr.1.size+1,4,none⟩) (.inl rfl) _
   have hb5:Below wr.1.size wr w5:=HB3.out.trans (ha5.below HB3.out.size (fun i hi hc=>by omega))
   have c5:∀z:Ext w5,z.val.cell? ⟨wr.1.size+1,5,none⟩=some (.slice none 0 0):=fun z=>ab z.2 (hk5.cell 5)
   have c3:∀z:Ext w5,z.val.cell? ⟨w.1.size,3,none⟩=some (.slice (some ⟨b,o,none⟩) es.length ec):=fun z=>ab z.2 (ab hb5 q3)
   have HW5:=vQ hw5
   have HK5:=vQ hk5
   have HB5:=vQ hb5
   have HMn:=vQ hmin
   clear hw5 hk5 ha5 hb5 hmin
   go_wp2_with fail
   rw[HW5.out]
   refine dT (u:=w5) 9 3 (by kernel_rfl) (by kernel_rfl) rfl (fun c d v a w h=>by cases d <;> exact h) ?_
   simp only[List.take_succ_cons,List.take_zero,List.drop_succ_cons,List.drop_zero]
   iterate 9
    refine nt ?_
    apply Exists.intro
    refine⟨fun z=>?_,?_⟩
    ·go_simp
     try with_reducible rfl
    try simp only[Act.put,List.setIfInBounds_toArray,List.set_cons_zero,List.set_cons_succ]
   refine kr ?_
   refine cq (fun K hK=>?_)
   refine jb (l:=es.take m) (p:=some ⟨b,o,none⟩) (c:=ec) (HEt.out w5.drew HB5.out.drew) (by rw[HMn.out];omega) (.tmp 82) (.tmp 86) rfl rfl rfl (by rw[HMn.out];rfl) ?_
   intro q cap w6 hO6 hb6
   rw[HMn.out] at hO6 ⊢
   have hB6:Below w5.1.size w5 w6:=((Below.refl w5.1.size w5).drew).trans hb6
   obtain⟨hk7,ha7⟩:=HK5.out.reents (s':=Sc.resume es m en n c) (hO6.low (by show wr.1.size<=w5.1.size;exact HB5.out.size)) (ae hB6 _) (fun k hk=>.inr (hO6.lt k hk).1) rfl HGd.out
   have j5:w6.cell? ⟨wr.1.size+1,5,none⟩=some (.slice none 0 0):=ab hB6 (HK5.out.cell 5)
   have j6:w6.frozen? ⟨wr.1.size+1,5,none⟩=false:=(HK5.out.on hB6).thawed 5
   have HK7:=vQ (hk7.down HBw.out.size)
   have HB7:=vQ (HBw.out.trans ((HB5.out.trans (ha7.below HB5.out.size (fun i hi hc=>by
    rcases hc with hc | hc | hc
    ·omega
    ·omega
    ·simp[Value.ownBlock] at hc))).mono HBw.out.size))
   have HB6:=vQ hB6
   refine hK _ _ ⟨⟨_,HB6.out⟩,rfl⟩ ?_
   clear hO6 hb6 hB6 hk7 ha7 hK K
   try simp only[Act.put,List.setIfInBounds_toArray,List.set_cons_zero,List.set_cons_succ]
   refine cq (fun K hK=>?_)
   go_simp
   refine hK _ _ ⟨⟨_,HB6.out⟩,rfl⟩ ?_
   clear hK K
   try simp only[Act.put,List.setIfInBounds_toArray,List.set_cons_zero,List.set_cons_succ]
   refine cq (fun K hK=>?_)
   go_simp
   refine hK _ _ ⟨⟨_,HB6.out⟩,rfl⟩ ?_
   clear hK K
   try simp only[Act.put,List.setIfInBounds_toArray,List.set_cons_zero,List.set_cons_succ]
   refine kq (fun K hK=>?_)
   go_simp
   refine hK _ _ ?_
   clear hK K
   try simp only[Act.put,List.setIfInBounds_toArray,List.set_cons_zero,List.set_cons_succ]
   go_wp2
   go_ret
   unfold nl
   rw[if_pos HRs.out]
   exact⟨HB7.out,m,en,_,_,_,_,rfl,HEn.out,rfl,HK7.out⟩
end
section
open Go.RowKit
namespace Rw
def sFr(n:Int)(c:List Col):Fr:=⟨1,n,c,0,0,0,[],i9⟩
def resume(es:List Ent)(k:Nat)(e:Ent)(n:Int)(c:List Col):Rw:=⟨[],4*(k:Int),e.row,es.take k,[(sFr n c,e.sch)]⟩
theorem twin_resume(es:List Ent)(k:Nat)(e:Ent)(n:Int)(c:List Col)(hn:0<=n):Twin (Sc.resume es k e n c) (resume es k e n c):=by
 have hp:Sc.placeAt (Sc.resume es k e n c) n=e.sch:=by
  unfold Sc.placeAt Sc.resume Sc.learn
  simp
 refine⟨rfl,rfl,?_,?_,fun _=>rfl,rfl,?_,fun m=>?_⟩
 ·show(if (-1:Int)<n then n else -1)=n
  rw[if_pos (by omega)]
 ·show((0:Int),decide (0<1))=(0,decide (0<=n))
  rw[decide_eq_true hn]
  rfl
 ·show En.mk _ _ _ e.sch=En.mk _ _ _ (Sc.placeAt (Sc.resume es k e n c) n)
  rw[hp]
  rfl
 ·show match (if m=n then some (Kn.mk (c.map Col.fix) e.sch) else none) with
   |some k=>_
   |none=>_
  by_cases hm:m=n
  ·rw[if_pos hm]
   refine⟨(sFr n c,e.sch),?_,rfl,?_⟩
   ·unfold schema schemas resume
    simp[sFr,hm]
   ·unfold place schemas resume
    simp[sFr,hm]
  ·rw[if_neg hm]
   have hm2:¬n=m:=fun h=>hm h.symm
   constructor
   ·unfold schema schemas resume
    simp[sFr,hm2]
   ·unfold place schemas resume
    simp[sFr,hm2]
end Rw
theorem ms(b c:Nat)(l:List Int)(hl:l.length<=100)(w:World)(h:∀j (hj:j<l.length),w.cell? ⟨b,j,none⟩=some (.int .i64 l[j])):
  Calls Tryz.prog 48 #[.slice (some ⟨b,0,none⟩) l.length c] w fun e w'=>e=.returned (.bool (l.all (Fr.within Fr.S)))∧w'=w:=by
 have H:=vQ h
 obtain⟨R,hR⟩:∃R,R=l.all (Fr.within Fr.S):=⟨_,rfl⟩
 rw[<-hR]
 have HR:=vQ hR
 clear h hR
 go_enter Tryz.func48,Tryz.ntmps48
 go_wp2
 go_loop [7] (fun v7=>∃i:Nat,i<=l.length∧v7=.int .i64 i∧Hid ((l.take i).all (Fr.within Fr.S)=true)) (fun v7=>l.length-(intOf v7).toNat)
 case atStart=>exact⟨0,by omega,rfl,rfl⟩
 case round=>
  obtain⟨i,hi,rfl,HT⟩:=hrel
  by_cases hlt:i<l.length
  ·have hlt':(i:Int)<(l.length:Int):=by omega
   have hc:=H.out i hlt
   obtain⟨x,hx⟩:∃x,x=l[i]:=⟨_,rfl⟩
   rw[<-hx] at hc
   by_cases hin:0<=x∧x<1099511627776
   ·have g0:decide (x<0)=false:=decide_eq_false (by omega)
    have g1:decide ((1099511627776:Int)<=x)=false:=decide_eq_false (by omega)
    have HT2:Hid ((l.take (i+1)).all (Fr.within Fr.S)=true):=by
     show _=_
     rw[List.take_succ_eq_append_getElem hlt,List.all_append,HT.out,<-hx]
     simp[Fr.within,Fr.S,hin]
    clear hin hx HT
    go_wp2
    go_round
    case rel=>exact⟨i+1,by omega,by go_num,HT2⟩
    case measure=>simp[intOf];omega
   ·have HF:Hid (R=false):=by
     show _=_
     rw[HR.out,List.all_eq_false]
     have hf:Fr.within Fr.S x=false:=decide_eq_false hin
     exact⟨x,by rw[hx];exact List.getElem_mem hlt,by rw[hf];decide⟩
    clear hx HT
    by_cases h0:x<0
    ·have g0:decide (x<0)=true:=decide_eq_true h0
     clear hin
     go_wp2
     go_ret
     exact⟨by rw[HF.out];rfl,rfl⟩
    ·have g0:decide (x<0)=false:=decide_eq_false h0
     have g1:decide ((1099511627776:Int)<=x)=true:=decide_eq_true (by omega)
     clear hin h0
     go_wp2
     go_ret
     exact⟨by rw[HF.out];rfl,rfl⟩
  ·have hii:i=l.length:=by omega
   subst hii
   have HF:Hid (R=true):=by
    show _=_
    have:=HT.out
    rw[List.take_length] at this
    rw[HR.out,this]
   clear HT hlt hi
   go_wp2
   go_ret
   exact⟨by rw[HF.out];rfl,rfl⟩
theorem kC{l:List Ent}{p:OA}{c:Nat}{w:World}(h:bQ w p l)(hlen:l.length*24<=140737488351232){ops:Array Oper}{o:Oper}{a:Act}{K:Act->World->Prop}{Q:Exit->Act->World->Prop}{E:Prop}(y x:Operand)(hg:o.guard=none)(ht:o.type=32)(hop:o.op=Op.call { callee:=Callee.builtin Builtin.append,args:=#[y,x],argTypes:=#[32,32] })(hs:a.eval y=.slice none 0 0)(hx:a.eval x=.slice p l.length c)(hK:∀q cap W,aT W w.1.size (.slice q l.length cap) l->Below w.1.size w W->K (a.put o.dst (.slice q l.length cap)) W):
  if Region.wanted o (yielded ops a.tmps)=true then Oper.wp Tryz.prog o a w K Q else E:=by
 have hw:Region.wanted o (yielded ops a.tmps)=true:=by simp[Region.wanted,hg]
 rw[if_pos hw]
 exact jb h hlen y x ht hop hs hx hK
theorem jB{w wf:World}{F:Nat->Prop}{es:List Ent}{m:Nat}{en:Ent}{n:Int}{c:List Col}{p q:OA}{cc cap g bx:Nat}(hF:∀i,F i->i<w.1.size)(hb:Below w.1.size w wf)(hx:∀w',Aside F w w'->aQ w' p c)(hs:c.length*120<=140737488351232)(hcc:c.length<=cc)(hm:(es.take m).length=m)(hm2:m<=5864062014634)(hrow:0<=en.row∧en.row<1099511627776)(hE:aT wf w.1.size (.slice q m cap) (es.take m))(hg:wf.1[g]?=some (.cells #[.int .i64 1,.int .i64 n,.slice p c.length cc,.int .i64 0,.int .i64 0,.int .i64 0,.slice none 0 0,.int .i64 0,.int .i64 0,.int .i64 0,.slice none 0 0,.int .i64 en.sch] 76))(hgl:w.1.size<=g)(hbx:wf.1[bx]?=some (.cells #[.slice none 0 0,.int .i64 (4*(m:Int)),.int .i64 en.row,.slice q m cap,.slice (some ⟨g,0,none⟩) 1 1] 71))(hbl:w.1.size<=bx):aO wf bx (Rw.resume es m en n c) F:=by
 have d1:g≠bx:=fun hc=>by
  subst hc
  rw[hg] at hbx
  injection hbx with h4
  injection h4 with _ h5
  exact absurd h5 (by decide)
 have d2:=eQ hE hbx (by decide)
 refine⟨⟨none,0,q,cap,some ⟨g,0,none⟩,1,[],[([.int .i64 1,.int .i64 n,.slice p c.length cc,.int .i64 0,.int .i64 0,.int .i64 0,.slice none 0 0,.int .i64 0,.int .i64 0,.int .i64 0,.slice none 0 0,.int .i64 en.sch],(Rw.sFr n c,en.sch))],?_,rfl,rfl,fun w' ha=>⟨⟨fun z hz=>(by cases hz),fun j hj=>(by simp at hj)⟩,?_,fun z hz=>?_,fun j hj=>?_⟩,?_,vX⟩,⟨?_,?_,Nat.zero_le _,vX,fun q hq=>(by cases hq)⟩⟩
 ·show wf.1[bx]?=some (.cells #[.slice none 0 0,.int .i64 (4*(m:Int)),.int .i64 en.row,.slice q (es.take m).length cap,.slice (some ⟨g,0,none⟩) 1 1] 71)
  rw[hm]
  exact hbx
 ·have h1:=hE.aside ha (fun k hk hc=>by
   rcases hc with hc | hc
   ·exact d2 (by rw[hk,hc])
   ·have:=hF k hc
    have:=(hE.lt k hk).1
    omega)
  obtain⟨p',c',e1,-,e2,-⟩:=h1.ents
  injection e1 with e3 _ _
  rw[e3]
  exact e2
 ·rw[List.mem_singleton] at hz
  subst hz
  have hc:=hx w' ((ae hb F).trans ha fun i hi hf=>by
   rcases hf with hf | hf
   ·omega
   ·exact hf)
  exact⟨p,cc,none,0,none,0,⟨p,cc,none,0,none,0,rfl,hs,hcc,hc,Nat.zero_le _,vX,.inl rfl,Nat.zero_le _,vX,eg _ _⟩,rfl⟩
 ·obtain rfl:j=0:=by simpa using hj
  refine⟨g,0,rfl,fun k hk=>?_⟩
  have hgw:w'.1[g]?=_:=(ha.block g (Array.getElem?_eq_some_iff.1 hg).1 (fun hc=>by
   rcases hc with hc | hc
   ·exact d1 hc
   ·have:=hF g hc;omega)).trans hg
  rw[show 0+0*12+k=k by omega]
  simp[World.cell?,hgw]
 ·show(es.take m).length*24<=_
  rw[hm]
  omega
 ·show(0:Int)<=4*(m:Int)∧4*(m:Int)<=70368744177664
  omega
 ·show(0:Int)<=en.row∧en.row<=1099511627776
  omega
def kh(w:World)(F:Nat->Prop)(es:List Ent)(k n:Int)(c:List Col)(e:Ending)(w':World):Prop:=Below w.1.size w w' ∧
 if Sc.resumes es k n c=true then ∃(m:Nat) (en:Ent) (b:Nat),k=(m:Nat)∧es[m]?=some en∧w.1.size<=b∧e=.returned (.pointer (some ⟨b,0,none⟩))∧aO w' b (Rw.resume es m en n c) F else e=.returned (.pointer none)
theorem ss{w w':World}{F:Nat->Prop}{es:List Ent}{k n:Int}{c:List Col}(hb:Below w.1.size w w')(h:Sc.resumes es k n c=false):kh w F es k n c (.returned (.pointer none)) w':=by
 unfold kh
 rw[h]
 exact⟨hb,rfl⟩
theorem kO(w:World)(F:Nat->Prop)(es:List Ent)(ep:OA)(ec:Nat)(hel:es.length*24<=140737488351232)(hec:es.length<=ec)(he:bQ w ep es)(k n:Int)(hk:Fr.i64 k)(c:List Col)(p:OA)(cc:Nat)(hs:c.length*120<=140737488351232)(hcc:c.length<=cc)(hx:∀w',Aside F w w'->aQ w' p c)(hwf:∀x∈c,x.wf)(xa xf xr:Int)(hF:∀i,F i->i<w.1.size):
    Calls Tryz.prog 13 #[.agg #[.int .i64 xa,.int .i64 xf,.int .i64 xr,.slice ep es.length ec],.int .i64 k,.agg #[.int .i64 n,.slice p c.length cc]] w (kh w F es k n c):=by
  have HNo:=vQ (@ss w (F:=F) (es:=es) (k:=k) (n:=n) (c:=c))
  have HRn:=vQ (@gW es k n c)
  have HE:=vQ he
  have HX:=vQ hx
  have HWf:=vQ hwf
  have hk1:=hk.1
  have hk2:=hk.2
  clear he hx hwf hk
  obtain⟨W0,hW0⟩:∃W0,W0=(w.alloc (.cells #[.int .i64 xa,.int .i64 xf,.int .i64 xr,.slice ep es.length ec] 34)).alloc (.cells #[.int .i64 n,.slice p c.length cc] 44):=⟨_,rfl⟩
  have hb0:Below w.1.size w W0:=by rw[hW0];exact vY.alloc (by simp) _
  have hz0:w.1.size+2=W0.1.size:=by rw[hW0];simp
  have hbx:W0.1[w.1.size]?=some (.cells #[.int .i64 xa,.int .i64 xf,.int .i64 xr,.slice ep es.length ec] 34):=by
    rw[hW0,az _ _ (by simp)]
    exact af w _
  have hbs:W0.1[w.1.size+1]?=some (.cells #[.int .i64 n,.slice p c.length cc] 44):=by
    rw[hW0]
    have:=af (w.alloc (.cells #[.int .i64 xa,.int .i64 xf,.int .i64 xr,.slice ep es.length ec] 34)) (.cells #[.int .i64 n,.slice p c.length cc] 44)
    simpa using this
  have x3:W0.cell? ⟨w.1.size,3,none⟩=some (.slice ep es.length ec):=aa hbx 3
  have s0:W0.cell? ⟨w.1.size+1,0,none⟩=some (.int .i64 n):=aa hbs 0
  have s1:W0.cell? ⟨w.1.size+1,1,none⟩=some (.slice p c.length cc):=aa hbs 1
  have HB0:=vQ hb0
  have HZ0:=vQ (show w.1.size+1<W0.1.size by omega)
  have HW0:=vQ hW0.symm
  have HCk:=vQ (fP c p cc W0 hs hcc ((HX.out w (Aside.refl _ _)).on hb0) HWf.out)
  clear hb0 hz0 hW0
  by_cases h0:0<=k
  case neg=>
    have g0:decide (k<0)=true:=decide_eq_true (by omega)
    have HF:=vQ (HNo.out W0 HB0.out (HRn.out fun h=>h0 h.1.1))
    go_enter Tryz.func13,Tryz.ntmps13
    go_wp2
    go_ret
    rw[HW0.out]
    exact HF.out
  have g0:decide (k<0)=false:=decide_eq_false (by omega)
  by_cases h1:k<(es.length:Int)
  case neg=>
    have g1:decide ((es.length:Int)<=k)=true:=decide_eq_true (by omega)
    have HF:=vQ (HNo.out W0 HB0.out (HRn.out fun h=>h1 h.1.2))
    go_enter Tryz.func13,Tryz.ntmps13
    go_wp2
    go_ret
    rw[HW0.out]
    exact HF.out
  have g1:decide ((es.length:Int)<=k)=false:=decide_eq_false (by omega)
  by_cases hn0:0<=n
  case neg=>
    have g2:decide (n<0)=true:=decide_eq_true (by omega)
    have HF:=vQ (HNo.out W0 HB0.out (HRn.out fun h=>hn0 (of_decide_eq_true h.2.1:0<=n∧n<Fr.N).1))
    go_enter Tryz.func13,Tryz.ntmps13
    go_wp2
    go_ret
    rw[HW0.out]
    exact HF.out
  have g2:decide (n<0)=false:=decide_eq_false (by omega)
  by_cases hn1:n<2147483648
  case neg=>
    have g3:decide ((2147483648:Int)<=n)=true:=decide_eq_true (by omega)
    have HF:=vQ (HNo.out W0 HB0.out (HRn.out fun h=>hn1 (of_decide_eq_true h.2.1:0<=n∧n<Fr.N).2))
    go_enter Tryz.func13,Tryz.ntmps13
    go_wp2
    go_ret
    rw[HW0.out]
    exact HF.out
  have g3:decide ((2147483648:Int)<=n)=false:=decide_eq_false (by omega)
  have hsm:Fr.within Fr.N n=true:=decide_eq_true ⟨hn0,hn1⟩
  obtain⟨er,her⟩:∃er,er=Sch.err c:=⟨_,rfl⟩
  rw[<-her] at HCk
  by_cases he0:er=0
  case neg=>
    have HF:Hid (∀w',Below w.1.size w w'->kh w F es k n c (.returned (.pointer none)) w'):=fun w' hb=>HNo.out w' hb (HRn.out fun h=>he0 (by rw[her];exact h.2.2))
    have g4:((er:Int)==0)=false:=by rw[beq_eq_false_iff_ne];omega
    clear her he0
    go_enter Tryz.func13,Tryz.ntmps13
    go_wp2_with fail
    rw[HW0.out]
    refine HCk.out.mono ?_
    rintro e w1 ⟨rfl,hb1⟩
    have HB1:=vQ (HB0.out.trans (hb1.mono HB0.out.size))
    clear hb1 HCk
    go_wp2
    go_ret
    exact HF.out _ HB1.out
  subst he0
  obtain⟨m,rfl⟩:∃m:Nat,k=(m:Nat):=⟨k.toNat,by omega⟩
  have hm:m<es.length:=by omega
  have HCs:Hid (Sch.err c=0):=her.symm
  clear her
  go_enter Tryz.func13,Tryz.ntmps13
  go_wp2_with fail
  rw[HW0.out]
  refine HCk.out.mono ?_
  rintro e w1 ⟨rfl,hb1⟩
  have y3:=ab hb1 x3
  have t0:=ab hb1 s0
  have t1:=ab hb1 s1
  have HB1:=vQ (HB0.out.trans (hb1.mono HB0.out.size))
  have HZ1:=vQ (Nat.lt_of_lt_of_le HZ0.out hb1.size)
  have g1n:decide (es.length<=m)=false:=decide_eq_false (by omega)
  have hmI:(m:Int)<5864062014634:=by omega
  have f0:(m:Int)+1<=(ec:Int):=by omega
  clear hb1 HCk x3 s0 s1 hbx hbs HW0 HB0 HZ0
  go_wp2_with fail
  go_loopw [41] (fun v41 wr=>∃i:Nat,i<=m+1∧v41=.int .i64 (i:Nat)∧Hid ((es.take i).all Fr.entOk=true)∧Hid (Below w1.1.size w1 wr)) (fun v41 _=>m+1-(intOf v41).toNat)
  case atStart=>exact⟨0,by omega,rfl,rfl,vZ⟩
  case round=>
    obtain⟨i,hi,rfl,HT,HBr⟩:=hrel
    have hiI:(i:Int)<=5864062014634:=by omega
    by_cases hlt:i<m+1
    · have f1:(i:Int)<(m:Int)+1:=by omega
      have hBr:=HB1.out.trans (HBr.out.mono HB1.out.size)
      obtain⟨b,o,rfl,hbl,k0,k1,k2⟩:=(HE.out.on hBr) i (by omega)
      have HOk:Hid ((es.take (i+1)).all Fr.entOk=Fr.entOk (es[i]'(by omega))):=by
        show _=_
        rw[List.take_succ_eq_append_getElem (by omega),List.all_append,HT.out]
        simp
      have HNo2:Hid (Fr.entOk (es[i]'(by omega))=false->Sc.resumes es (m:Nat) n c=false):=fun h=>by
        rw[Bool.eq_false_iff]
        intro hc
        unfold Sc.resumes at hc
        simp only[Bool.and_eq_true,decide_eq_true_eq,List.all_eq_true] at hc
        have:=hc.2 (es[i]'(by omega)) (List.mem_take_iff_getElem.2 ⟨i,by omega,rfl⟩)
        rw[h] at this
        exact Bool.noConfusion this
      have HEn:Hid (Fr.entOk (es[i]'(by omega))=[(es[i]'(by omega)).at_,(es[i]'(by omega)).row,(es[i]'(by omega)).sch].all (Fr.within Fr.S)):=by
        show _=_
        simp[Fr.entOk,Bool.and_assoc]
      generalize es[i]'(by omega)=en at k0 k1 k2 HOk HNo2 HEn
      have HLg:=vQ (ms (wr.1.size+1) 3 [en.at_,en.row,en.sch] (by simp) ((wr.alloc (.cells #[.int .i64 en.at_,.int .i64 en.row,.int .i64 en.sch] 64)).alloc (.cells #[.int .i64 en.at_,.int .i64 en.row,.int .i64 en.sch] 2)) (fun j hj=>by
        have hj3:j<3:=hj
        have hn:=af (wr.alloc (.cells #[.int .i64 en.at_,.int .i64 en.row,.int .i64 en.sch] 64)) (.cells #[.int .i64 en.at_,.int .i64 en.row,.int .i64 en.sch] 2)
        rw[show(wr.alloc (.cells #[.int .i64 en.at_,.int .i64 en.row,.int .i64 en.sch] 64)).1.size=wr.1.size+1 by simp] at hn
        match j,hj3 with
        |0,_=>exact aa hn 0
        |1,_=>exact aa hn 1
        |2,_=>exact aa hn 2))
      rw[<-HEn.out] at HLg
      have HB2:Hid (Below w1.1.size w1 ((wr.alloc (.cells #[.int .i64 en.at_,.int .i64 en.row,.int .i64 en.sch] 64)).alloc (.cells #[.int .i64 en.at_,.int .i64 en.row,.int .i64 en.sch] 2))):=(HBr.out.alloc HBr.out.size _).alloc (Nat.le_trans HBr.out.size (by simp)) _
      clear hBr hbl HBr HT HEn
      go_wp2_with fail
      refine HLg.out.mono ?_
      rintro e w2 ⟨rfl,hw2⟩
      rw[<-hw2] at HB2
      clear hw2 HLg
      cases hok:Fr.entOk en with
      |false=>
        have HF:=vQ (HNo.out w2 (HB1.out.trans (HB2.out.mono HB1.out.size)) (HNo2.out hok))
        clear hok HOk HNo2
        go_wp2
        go_ret
        exact HF.out
      |true=>
        rw[hok] at HOk
        clear hok HNo2
        go_wp2
        go_roundw
        case rel=>exact⟨i+1,by omega,by go_num,HOk,HB2⟩
        case measure=>simp[intOf];omega
    · have f1:¬(i:Int)<(m:Int)+1:=by omega
      obtain rfl:i=m+1:=by omega
      have hBr:=HB1.out.trans (HBr.out.mono HB1.out.size)
      obtain⟨b,o,rfl,hbl,k0,k1,k2⟩:=(HE.out.on hBr) m hm
      have hall:=List.all_eq_true.1 HT.out
      have hen:es[m]?=some es[m]:=List.getElem?_eq_getElem hm
      have hok:Fr.entOk es[m]=true:=hall _ (List.mem_take_iff_getElem.2 ⟨m,by omega,rfl⟩)
      have hall2:∀e∈es.take m,Fr.entOk e=true:=fun e he=>hall e (List.take_subset_take_left _ (Nat.le_succ m) he)
      have HRs:Hid (Sc.resumes es (m:Nat) n c=true):=by
        show _=_
        unfold Sc.resumes
        rw[decide_eq_true (by omega),hsm,decide_eq_true HCs.out]
        exact HT.out
      have HEt:Hid (∀w',Below wr.1.size wr w'->bQ w' (some ⟨b,o,none⟩) (es.take m)):=fun w' hb j hj=>by
        have hj2:j<es.length:=by rw[List.length_take] at hj;omega
        have:=(HE.out.on (hBr.trans (hb.mono hBr.size))) j hj2
        rw[List.getElem_take]
        exact this
      have hmin:(es.take m).length=m:=by rw[List.length_take];omega
      generalize es[m]=en at k0 k1 k2 hen hok
      obtain⟨-,hrow,hsch⟩:=Sc.ent_parts hok
      have HEn:=vQ hen
      have HBw:=vQ hBr
      have q3:=ab HBr.out y3
      have q0:=ab HBr.out t0
      have q1:=ab HBr.out t1
      have hz1:w.1.size+1<wr.1.size:=Nat.lt_of_lt_of_le HZ1.out HBr.out.size
      have d1:¬w.1.size=wr.1.size:=by omega
      have d2:¬wr.1.size=w.1.size:=by omega
      have d3:¬b=wr.1.size:=by omega
      have d4:¬wr.1.size=b:=by omega
      have d5:¬w.1.size+1=wr.1.size:=by omega
      have d6:¬wr.1.size=w.1.size+1:=by omega
      have mI:(m:Int)<(es.length:Int):=by omega
      have m2:(m:Int)<=(ec:Int):=by omega
      obtain⟨W1,hW1⟩:∃W1,wr.alloc (.cells #[.int .i64 en.at_,.int .i64 en.row,.int .i64 en.sch] 64)=W1:=⟨_,rfl⟩
      have hbW:Below wr.1.size wr W1:=by rw[<-hW1];exact vY
      have hbe:W1.1[wr.1.size]?=some (.cells #[.int .i64 en.at_,.int .i64 en.row,.int .i64 en.sch] 64):=by rw[<-hW1];exact af wr _
      have hzW:W1.1.size=wr.1.size+1:=by rw[<-hW1];simp
      have e3:=ab hbW q3
      have e0:=ab hbW q0
      have e1:=ab hbW q1
      have e4:W1.cell? ⟨wr.1.size,1,none⟩=some (.int .i64 en.row):=aa hbe 1
      have e5:W1.cell? ⟨wr.1.size,2,none⟩=some (.int .i64 en.sch):=aa hbe 2
      have HW1:=vQ hW1
      have HBW:=vQ hbW
      have HMn:=vQ hmin
      have HFin:Hid (∀wf q cap g bx,Below wr.1.size wr wf->aT wf w.1.size (.slice q m cap) (es.take m)->wf.1[g]?=some (.cells #[.int .i64 1,.int .i64 n,.slice p c.length cc,.int .i64 0,.int .i64 0,.int .i64 0,.slice none 0 0,.int .i64 0,.int .i64 0,.int .i64 0,.slice none 0 0,.int .i64 en.sch] 76)->w.1.size<=g->wf.1[bx]?=some (.cells #[.slice none 0 0,.int .i64 (4*(m:Int)),.int .i64 en.row,.slice q m cap,.slice (some ⟨g,0,none⟩) 1 1] 71)->w.1.size<=bx->kh w F es (m:Nat) n c (.returned (.pointer (some ⟨bx,0,none⟩))) wf):=fun wf q cap g bx k1 k2 k3 k4 k5 k6=>by
        unfold kh
        rw[if_pos HRs.out]
        exact⟨HBw.out.trans (k1.mono HBw.out.size),m,en,bx,rfl,HEn.out,k6,rfl,jB hF (HBw.out.trans (k1.mono HBw.out.size)) HX.out hs hcc HMn.out (by omega) hrow k2 k3 k4 k5 k6⟩
      have i1:¬w.1.size=W1.1.size:=by omega
      have i2:¬W1.1.size=w.1.size:=by omega
      have i3:¬w.1.size+1=W1.1.size:=by omega
      have i4:¬W1.1.size=w.1.size+1:=by omega
      have i5:¬wr.1.size=W1.1.size:=by omega
      have i6:¬W1.1.size=wr.1.size:=by omega
      have HZ:=vQ hz1
      have HW4:Hid (IntKind.i64.wrap (4*(m:Int))=4*(m:Int)):=by show _=_;rw[IntKind.wrap_i64];omega
      clear hall hall2 hok hen HT hBr hi hlt y3 t0 t1 HRn hW1 hbW hbe hzW hmin hF hz1
      have n0:w.1.size+1<W1.1.size:=Nat.lt_of_lt_of_le HZ.out HBW.out.size
      have n2:wr.1.size<W1.1.size:=by have:=HBW.out.size;omega
      go_wp2_with fail
      rw[HW1.out]
      go_region_held3 (fun w'=>w'.cell? ⟨w.1.size,3,none⟩=some (.slice (some ⟨b,o,none⟩) es.length ec)∧w'.cell? ⟨w.1.size+1,0,none⟩=some (.int .i64 n)∧w'.cell? ⟨w.1.size+1,1,none⟩=some (.slice p c.length cc)∧w'.cell? ⟨wr.1.size,1,none⟩=some (.int .i64 en.row)∧w'.cell? ⟨wr.1.size,2,none⟩=some (.int .i64 en.sch)) (go_keep) (first
        | (refine kC (l:=es.take m) (p:=some ⟨b,o,none⟩) (c:=ec) (by first | exact HEt.out _ HBW.out.drew | exact HEt.out _ (HBW.out.drew.alloc HBW.out.size _)) (by rw[HMn.out];omega) (.const (.slice none 0 0)) (.tmp 67) (by rfl) (by rfl) (by rfl) (by rfl) (by rw[HMn.out];rfl) ?_
           intro q cap W2 hO2 hb2
           rw[HMn.out] at hO2 ⊢
           have HB2:Hid (Below W1.1.size W1 W2):=by first | exact(Below.refl W1.1.size W1).drew.trans hb2 | exact((Below.refl W1.1.size W1).drew.alloc vX _).trans (hb2.mono (by simp))
           have a3:=ab HB2.out e3
           have a0:=ab HB2.out e0
           have a1:=ab HB2.out e1
           have a4:=ab HB2.out e4
           have a5:=ab HB2.out e5
           have n1:=Nat.lt_of_lt_of_le n0 HB2.out.size
           have n3:=Nat.lt_of_lt_of_le n2 HB2.out.size
           have j1:¬w.1.size=W2.1.size:=by omega
           have j2:¬W2.1.size=w.1.size:=by omega
           have j3:¬w.1.size+1=W2.1.size:=by omega
           have j4:¬W2.1.size=w.1.size+1:=by omega
           have j5:¬wr.1.size=W2.1.size:=by omega
           have j6:¬W2.1.size=wr.1.size:=by omega
           have HO2:=vQ hO2
           have HL2:=vQ hb2
           clear hO2 hb2 n1 n3)
        |fail)
      · go_wp2
        go_ret
        rw[HW4.out]
        have hBw:Below wr.1.size wr W2:=HBW.out.trans (HB2.out.mono HBW.out.size)
        have hz2:=hBw.size
        have hBf:=(hBw.alloc hz2 (.cells #[.int .i64 1,.int .i64 n,.slice p c.length cc,.int .i64 0,.int .i64 0,.int .i64 0,.slice none 0 0,.int .i64 0,.int .i64 0,.int .i64 0,.slice none 0 0,.int .i64 en.sch] 76)).alloc (by simp;omega) (.cells #[.slice none 0 0,.int .i64 (4*(m:Int)),.int .i64 en.row,.slice q m cap,.slice (some ⟨W2.1.size,0,none⟩) 1 1] 71)
        have hBn:=((Below.refl W2.1.size W2).alloc vX (.cells #[.int .i64 1,.int .i64 n,.slice p c.length cc,.int .i64 0,.int .i64 0,.int .i64 0,.slice none 0 0,.int .i64 0,.int .i64 0,.int .i64 0,.slice none 0 0,.int .i64 en.sch] 76)).alloc (by simp) (.cells #[.slice none 0 0,.int .i64 (4*(m:Int)),.int .i64 en.row,.slice q m cap,.slice (some ⟨W2.1.size,0,none⟩) 1 1] 71)
        refine HFin.out _ q cap W2.1.size (W2.1.size+1) hBf ((HO2.out.low (by show w.1.size<=W1.1.size;omega)).on hBn) ?_ (by have:=HZ.out;omega) ?_ (by have:=HZ.out;omega)
        · rw[az _ _ (by simp)]
          exact af W2 _
        · have:=af (W2.alloc (.cells #[.int .i64 1,.int .i64 n,.slice p c.length cc,.int .i64 0,.int .i64 0,.int .i64 0,.slice none 0 0,.int .i64 0,.int .i64 0,.int .i64 0,.slice none 0 0,.int .i64 en.sch] 76)) (.cells #[.slice none 0 0,.int .i64 (4*(m:Int)),.int .i64 en.row,.slice q m cap,.slice (some ⟨W2.1.size,0,none⟩) 1 1] 71)
          simpa using this
      · go_wp2
        go_ret
        rw[HW4.out]
        have hBw:Below wr.1.size wr W2:=HBW.out.trans (HB2.out.mono HBW.out.size)
        have hz2:=hBw.size
        have hz3:=HB2.out.size
        have hz4:=HL2.out.size
        have hgw:W2.1[W1.1.size]?=_:=(HL2.out.block W1.1.size (by simp)).trans (af W1.drew _)
        refine HFin.out _ q cap W1.1.size W2.1.size (hBw.alloc hz2 _) ((HO2.out.low (by simp;omega)).on ((Below.refl W2.1.size W2).alloc vX _)) ?_ (by omega) (af W2 _) (by have:=HZ.out;omega)
        rw[az _ _ (by have:=(Array.getElem?_eq_some_iff.1 hgw).1;omega)]
        exact hgw
end
section
open Go.RowKit
theorem gx(LIVE:uJ)(es:List Ent)(ep:OA)(ec:Nat)(hel:es.length*24<=140737488351232)(hec:es.length<=ec)(k n:Int)(hk:Fr.i64 k)(hn:Fr.i64 n)(c:List Col)(p:OA)(cc:Nat)(hs:c.length*120<=140737488351232)(hcc:c.length<=cc)(hcw:∀x∈c,x.wf)(xa xf xr:Int)(lp:OA)(lc:Nat)(l:List (Fr×Int))(hl:l.length*144<=140737488351232)(hwf:∀q∈l,q.1.wf∧q.1.block.length<=140737488351232)(w:World)(hv:Hv w)(he:bQ w ep es)(hx:aQ w p c)(hA:Pls w lp l):
  Calls Tryz.prog 4 #[.agg #[.int .i64 xa,.int .i64 xf,.int .i64 xr,.slice ep es.length ec],.int .i64 k,.agg #[.int .i64 n,.slice p c.length cc],.slice lp l.length lc] w fun e w'=>e=.returned (.bool true)∧Below w.1.size w w':=by
 obtain⟨Z0,hZ0⟩:∃Z0,Z0=(w.alloc (.cells #[.int .i64 xa,.int .i64 xf,.int .i64 xr,.slice ep es.length ec] 34)).alloc (.cells #[.int .i64 n,.slice p c.length cc] 44):=⟨_,rfl⟩
 have hb0:Below w.1.size w Z0:=by rw[hZ0];exact vY.alloc (by simp) _
 have hbx:Z0.1[w.1.size]?=some (.cells #[.int .i64 xa,.int .i64 xf,.int .i64 xr,.slice ep es.length ec] 34):=by
  rw[hZ0,az _ _ (by simp)]
  exact af w _
 have hbs:Z0.1[w.1.size+1]?=some (.cells #[.int .i64 n,.slice p c.length cc] 44):=by
  rw[hZ0]
  have:=af (w.alloc (.cells #[.int .i64 xa,.int .i64 xf,.int .i64 xr,.slice ep es.length ec] 34)) (.cells #[.int .i64 n,.slice p c.length cc] 44)
  simpa using this
 have HCs:Hid (∀w',Below Z0.1.size Z0 w'->(w'.cell? ⟨w.1.size,0,none⟩=some (.int .i64 xa)∧w'.cell? ⟨w.1.size,1,none⟩=some (.int .i64 xf)∧w'.cell? ⟨w.1.size,2,none⟩=some (.int .i64 xr)∧w'.cell? ⟨w.1.size,3,none⟩=some (.slice ep es.length ec))∧w'.cell? ⟨w.1.size+1,0,none⟩=some (.int .i64 n)∧w'.cell? ⟨w.1.size+1,1,none⟩=some (.slice p c.length cc)):=fun w' hb=>⟨⟨ab hb (aa hbx 0),ab hb (aa hbx 1),ab hb (aa hbx 2),ab hb (aa hbx 3)⟩,ab hb (aa hbs 0),ab hb (aa hbs 1)⟩
 have HSz:Hid (w.1.size+1<Z0.1.size):=(Array.getElem?_eq_some_iff.1 hbs).1
 have HZ0:=vQ hZ0.symm
 have HB0:=vQ hb0
 have HLv:=vQ (LIVE Z0 (hv.next hb0))
 clear hZ0 hb0 hbx hbs
 have HHv:=vQ hv
 have HA:=vQ hA
 have HWf:=vQ hwf
 have HN:=vQ hn
 have HK:Hid (∀w',Below w.1.size w w'->Calls Tryz.prog 12 #[.agg #[.int .i64 xa,.int .i64 xf,.int .i64 xr,.slice ep es.length ec],.int .i64 k,.agg #[.int .i64 n,.slice p c.length cc]] w' (nl w' es k n c)):=fun w' hb=>oQ w' es ep ec hel hec (he.on hb) k n hk c p cc hs (hx.on hb) hcw xa xf xr
 have HR:Hid (∀w' F,Below w.1.size w w'->(∀i,F i->w.1.size<=i∧i<w'.1.size)->Calls Tryz.prog 13 #[.agg #[.int .i64 xa,.int .i64 xf,.int .i64 xr,.slice ep es.length ec],.int .i64 k,.agg #[.int .i64 n,.slice p c.length cc]] w' (kh w' F es k n c)):=fun w' F hb hF=>kO w' F es ep ec hel hec (he.on hb) k n hk c p cc hs hcc (fun w'' ha=>hx.on (hb.trans (ha.below hb.size fun i hi hc=>by have:=hF i hc;omega))) hcw xa xf xr (fun i hi=>(hF i hi).2)
 clear hv hA LIVE hwf he hx hcw hn
 go_enter Tryz.func4,Tryz.ntmps4
 go_wp2_with fail
 rw[HZ0.out]
 refine HLv.out.mono ?_
 rintro e w1 ⟨rfl,hb1⟩
 have HB1:=vQ (HB0.out.trans (hb1.mono HB0.out.size))
 have HC1:=vQ hb1
 have HB1w:Hid (Z0.1.size<=w1.1.size):=hb1.size
 have HK1:=vQ (HK.out w1 HB1.out)
 obtain⟨⟨x0,x1,x2,x3⟩,x4,x5⟩:=HCs.out w1 hb1
 clear hb1 HLv HK
 go_wp2_with fail
 refine HK1.out.mono ?_
 rintro e w2 hk2
 unfold nl at hk2
 obtain⟨hb2,hk2⟩:=hk2
 obtain⟨⟨y0,y1,y2,y3⟩,y4,y5⟩:=HCs.out w2 (HC1.out.trans (hb2.mono HC1.out.size))
 by_cases hres:Sc.resumes es k n c=true
 case neg=>
  rw[if_neg hres] at hk2
  subst hk2
  have HR1:=vQ (HR.out w2 (fun _=>False) (HB1.out.trans (hb2.mono HB1.out.size)) (fun i h=>h.elim))
  have HB2:=vQ (HB1.out.trans (hb2.mono HB1.out.size))
  clear HR hb2
  go_wp2_with fail
  refine HR1.out.mono ?_
  rintro e w3 hr3
  unfold kh at hr3
  obtain⟨hb3,hr3⟩:=hr3
  rw[if_neg hres] at hr3
  subst hr3
  have HBf:=vQ (HB2.out.trans (hb3.mono HB2.out.size))
  clear hb3 HR1 hres
  go_wp2
  go_ret
  exact⟨rfl,HBf.out⟩
 rw[if_pos hres] at hk2
 obtain⟨m,en,a,M,v,g,rfl,hen,rfl,hkw⟩:=hk2
 have hwF:∀i,cm a M v i->w1.1.size<=i:=fun i hi=>by
  rcases hi with hi | hi | hi
  ·rw[hi];exact hkw.base.1
  ·rw[hi];exact hkw.base.2
  ·exact(hkw.ents.lt i hi).1
 have hwL:∀i,cm a M v i->i<w2.1.size:=fun i hi=>by
  rcases hi with hi | hi | hi
  ·rw[hi];exact hkw.lt
  ·rw[hi];exact hkw.map.lt
  ·exact(hkw.ents.lt i hi).2
 have hnn:0<=n:=by
  unfold Sc.resumes at hres
  simp only[Bool.and_eq_true] at hres
  exact(of_decide_eq_true hres.1.1.2:0<=n∧n<Fr.N).1
 have HR1:=vQ (HR.out w2 (cm a M v) (HB1.out.trans (hb2.mono HB1.out.size)) (fun i hi=>⟨Nat.le_trans HB1.out.size (hwF i hi),hwL i hi⟩))
 have HB2:=vQ hb2
 have HKw:=vQ hkw
 have HEn:=vQ hen
 clear HR hb2 hkw hen HK1 hwF hwL
 go_wp2_with fail
 refine HR1.out.mono ?_
 rintro e w3 hr3
 unfold kh at hr3
 obtain⟨hb3,hr3⟩:=hr3
 rw[if_pos hres] at hr3
 obtain⟨m',en',b,hm',hen',hbl,rfl,hrw⟩:=hr3
 obtain rfl:m'=m:=by omega
 obtain rfl:en'=en:=by
  rw[HEn.out] at hen'
  injection hen' with h
  exact h.symm
 have HI3:Hid (WkI w1 w3 a M b 1 (Sc.resume es m' en' n c) (Rw.resume es m' en' n c)):=by
  refine⟨⟨_,_,HKw.out.aside (G':=fun k=>k=b) (ae hb3 _) (fun k hk=>.inr (by omega)) (fun k hk=>by have:=hrw.lt;omega),hrw⟩,Rw.twin_resume es m' en' n c hnn,Nat.zero_le _,HB2.out.trans (hb3.mono HB2.out.size),Nat.le_trans HB2.out.size hbl⟩
 have HSn:Hid (∀w' s x i,WkI w1 w' a M b i s x->Calls Tryz.prog 11 #[.pointer (some ⟨a,0,none⟩),.pointer (some ⟨b,0,none⟩),.slice (some ⟨w'.1.size,0,none⟩) 1 1] (w'.alloc (.cells #[.int .i64 n] 2)) fun e w''=>e=.returned (.bool true)∧WkI w1 w'' a M b i s x):=fun w' s x i hI=>by
  have hb7:Below w'.1.size w' (w'.alloc (.cells #[.int .i64 n] 2)):=vY
  have hI7:=hI.on hb7
  obtain⟨v0,g0,k1,k2⟩:=hI7.walk
  refine(pO k1 k2 k1.notb hI7.twin (some ⟨w'.1.size,0,none⟩) 1 [n] (by simp) (fun m hm=>?_) (fun j hj=>?_)).mono fun e w'' ⟨y1,y2⟩=>⟨y1,hI7.on y2⟩
  ·rw[List.mem_singleton] at hm
   rw[hm];exact HN.out
  ·have hj0:j=0:=by simpa using hj
   subst hj0
   exact⟨w'.1.size,0,rfl,by simp,aa (af w' _) 0⟩
 obtain⟨-,z4,-⟩:=HCs.out w3 (HC1.out.trans (HI3.out.below.mono HC1.out.size))
 clear hrw hb3 hres hbl HR1 HKw HEn hnn hm' hen' x0 x1 x2 x3 x4 x5 y0 y1 y2 y3 y4 y5
 go_wp2_with fail
 refine(HSn.out w3 _ _ _ HI3.out).mono ?_
 rintro e w4 ⟨rfl,hi4⟩
 have HI4:=vQ hi4
 clear hi4 HSn HI3
 by_cases hbig:100<l.length
 ·have g0:(100:Int)<(l.length:Int):=by omega
  have g1:decide (100<l.length)=true:=decide_eq_true hbig
  have HBf:=vQ (HB1.out.trans (HI4.out.below.mono HB1.out.size))
  clear hbig HI4
  go_wp2
  go_ret
  exact⟨rfl,HBf.out⟩
 have g0:¬(100:Int)<(l.length:Int):=by omega
 have g1:decide (100<l.length)=false:=decide_eq_false hbig
 go_wp2_with fail
 go_loopw [58] (fun v58 wr=>∃(i:Nat) (s:Wk) (x:Rw),i<=l.length∧v58=.int .i64 (i:Nat)∧Hid (WkI w1 wr a M b (i+1) s x)) (fun v58 _=>l.length-(intOf v58).toNat)
 case atStart=>exact⟨0,_,_,Nat.zero_le _,rfl,HI4⟩
 case round=>
  obtain⟨i,s,x,hi,rfl,HI⟩:=hrel
  have hiI:(i:Int)<=100:=by omega
  by_cases hlt:i<l.length
  case neg=>
   have f1:¬(i:Int)<(l.length:Int):=by omega
   have HBf:=vQ (HB1.out.trans (HI.out.below.mono HB1.out.size))
   clear HI hlt HI4
   go_wp2
   go_ret
   exact⟨rfl,HBf.out⟩
  have f1:(i:Int)<(l.length:Int):=by omega
  have hBr:=HB1.out.trans (HI.out.below.mono HB1.out.size)
  obtain⟨bb,oo,rfl,hPA⟩:=HA.out i hlt
  obtain⟨hfw,hfb⟩:=HWf.out l[i] (List.getElem_mem hlt)
  obtain⟨sp,sc,bp,bc,ep,ec,hFl,d0,d1,d2,d3,d4,d5,d6,d7,d8,d9,d10,d11⟩:=(hPA.on hBr).out
  have hFu:∀w',Below w.1.size w w'->aD w' (aw l[i].1.kind l[i].1.number sp l[i].1.cols.length sc l[i].1.seq l[i].1.first l[i].1.rows bp l[i].1.block.length bc l[i].1.index.at_ l[i].1.index.frames l[i].1.index.rows ep l[i].1.index.entries.length ec) l[i].1:=fun w' hb=>by
   obtain⟨sp',sc',bp',bc',ep',ec',y,y0,y1,y2,y3,y4,y5,y6,y7,y8,y9,y10,y11⟩:=(hPA.on hb).out
   obtain⟨sq,sd,bq,bd,eq,ed,z,z0,z1,z2,z3,z4,z5,z6,z7,z8,z9,z10,z11⟩:=hPA.out
   have a2:=(ab hBr z2).symm.trans d2
   have a6:=(ab hBr z6).symm.trans d6
   have a10:=(ab hBr z10).symm.trans d10
   have c2:=(ab hb z2).symm.trans y2
   have c6:=(ab hb z6).symm.trans y6
   have c10:=(ab hb z10).symm.trans y10
   simp only[Option.some.injEq,Value.slice.injEq,true_and] at a2 a6 a10 c2 c6 c10
   obtain⟨rfl,rfl⟩:=a2
   obtain⟨rfl,rfl⟩:=a6
   obtain⟨rfl,rfl⟩:=a10
   obtain⟨rfl,rfl⟩:=c2
   obtain⟨rfl,rfl⟩:=c6
   obtain⟨rfl,rfl⟩:=c10
   exact y
  generalize l[i]=q at *
  obtain⟨f,pl⟩:=q
  unfold aw at hFu
  dsimp only at hfw hfb d0 d1 d2 d3 d4 d5 d6 d7 d8 d9 d10 d11 hFu
  obtain⟨b0,hq0⟩:∃y,y=f.kind:=⟨_,rfl⟩
  obtain⟨b1,hq1⟩:∃y,y=f.number:=⟨_,rfl⟩
  obtain⟨b2,hq2⟩:∃y,y=f.cols.length:=⟨_,rfl⟩
  obtain⟨b3,hq3⟩:∃y,y=f.seq:=⟨_,rfl⟩
  obtain⟨b4,hq4⟩:∃y,y=f.first:=⟨_,rfl⟩
  obtain⟨b5,hq5⟩:∃y,y=f.rows:=⟨_,rfl⟩
  obtain⟨b6,hq6⟩:∃y,y=f.block.length:=⟨_,rfl⟩
  obtain⟨b7,hq7⟩:∃y,y=f.index.at_:=⟨_,rfl⟩
  obtain⟨b8,hq8⟩:∃y,y=f.index.frames:=⟨_,rfl⟩
  obtain⟨b9,hq9⟩:∃y,y=f.index.rows:=⟨_,rfl⟩
  obtain⟨b10,hq10⟩:∃y,y=f.index.entries.length:=⟨_,rfl⟩
  have hn64:Fr.i64 b1:=by rw[hq1];exact hfw.2.1
  rw[<-hq0] at d0
  rw[<-hq1] at d1
  rw[<-hq2] at d2
  rw[<-hq3] at d3
  rw[<-hq4] at d4
  rw[<-hq5] at d5
  rw[<-hq6] at d6
  rw[<-hq7] at d7
  rw[<-hq8] at d8
  rw[<-hq9] at d9
  rw[<-hq10] at d10
  rw[<-hq0,<-hq1,<-hq2,<-hq3,<-hq4,<-hq5,<-hq6,<-hq7,<-hq8,<-hq9,<-hq10] at hFu
  obtain⟨W0,hW0⟩:∃W0,W0=wr.alloc (.cells #[.int .i64 b0,.int .i64 b1,.slice sp b2 sc,.int .i64 b3,.int .i64 b4,.int .i64 b5,.slice bp b6 bc,.int .i64 b7,.int .i64 b8,.int .i64 b9,.slice ep b10 ec,.int .i64 pl] 38):=⟨_,rfl⟩
  have hb0:Below wr.1.size wr W0:=by rw[hW0];exact vY
  have hbk:W0.1[wr.1.size]?=some (.cells #[.int .i64 b0,.int .i64 b1,.slice sp b2 sc,.int .i64 b3,.int .i64 b4,.int .i64 b5,.slice bp b6 bc,.int .i64 b7,.int .i64 b8,.int .i64 b9,.slice ep b10 ec,.int .i64 pl] 38 (0,0)):=by rw[hW0];exact af wr _
  have hz0:W0.1.size=wr.1.size+1:=by rw[hW0];simp
  have HW0:=vQ hW0.symm
  obtain⟨rc,hrc⟩:∃rc:Int,rc=if Sc.may s f pl=true then 0 else 143:=⟨_,rfl⟩
  obtain⟨s',hs'⟩:∃s',s'=Sc.next s f pl:=⟨_,rfl⟩
  have hI0:=HI.out.on hb0.drew
  have s0:=(HCs.out _ (HC1.out.trans ((HI.out.on hb0).below.mono HC1.out.size))).2.1
  have ne1:w.1.size+1<wr.1.size:=Nat.lt_of_lt_of_le HSz.out (Nat.le_trans HB1w.out HI.out.below.size)
  have ne2:¬w.1.size+1=wr.1.size:=by omega
  have ne3:¬wr.1.size=w.1.size+1:=by omega
  clear ne1
  have hF1:∀w',Below w1.1.size w1 w'->aD w' #[.int .i64 b0,.int .i64 b1,.slice sp b2 sc,.int .i64 b3,.int .i64 b4,.int .i64 b5,.slice bp b6 bc,.int .i64 b7,.int .i64 b8,.int .i64 b9,.slice ep b10 ec] f:=fun w' hb=>hFu w' (HB1.out.trans (hb.mono HB1.out.size))
  have HN1:Hid (Calls Tryz.prog 9 #[.pointer (some ⟨a,0,none⟩),.agg #[.int .i64 b0,.int .i64 b1,.slice sp b2 sc,.int .i64 b3,.int .i64 b4,.int .i64 b5,.slice bp b6 bc,.int .i64 b7,.int .i64 b8,.int .i64 b9,.slice ep b10 ec],.int .i64 pl] W0.drew fun e w'=>e=.returned (.int .i64 rc)∧WkM w1 w' a M b (i+1+1) s' x∧w'.1[wr.1.size]?=some (.cells #[.int .i64 b0,.int .i64 b1,.slice sp b2 sc,.int .i64 b3,.int .i64 b4,.int .i64 b5,.slice bp b6 bc,.int .i64 b7,.int .i64 b8,.int .i64 b9,.slice ep b10 ec,.int .i64 pl] 38 (0,0))):=by
   refine(hI0.next f hfw _ (hF1 _ hI0.below) pl ((HHv.out.next HB1.out).next hI0.below) (by omega)).mono fun e w' ⟨y1,y2,y3⟩=>⟨by rw[hrc];exact y1,by rw[hs'];exact y2,?_⟩
   rw[y3 wr.1.size (by show wr.1.size<W0.1.size;omega) (fun v g hk hc=>?_)]
   ·exact hbk
   ·obtain⟨v0,g0,k1,-⟩:=HI.out.walk
    have e5:W0.drew.cell? ⟨a,5,none⟩=some v:=hk.cell 5
    have e6:wr.cell? ⟨a,5,none⟩=some v0:=k1.cell 5
    have e7:=ab hb0.drew e6
    rw[e5] at e7
    injection e7 with e7
    subst e7
    have:=k1.within hc
    omega
  have HN2:Hid (∀w5,WkM w1 w5 a M b (i+1+1) s' x->w5.1[wr.1.size]?=some (.cells #[.int .i64 b0,.int .i64 b1,.slice sp b2 sc,.int .i64 b3,.int .i64 b4,.int .i64 b5,.slice bp b6 bc,.int .i64 b7,.int .i64 b8,.int .i64 b9,.slice ep b10 ec,.int .i64 pl] 38 (0,0))->Calls Tryz.prog 10 #[.pointer (some ⟨b,0,none⟩),.agg #[.int .i64 b0,.int .i64 b1,.slice sp b2 sc,.int .i64 b3,.int .i64 b4,.int .i64 b5,.slice bp b6 bc,.int .i64 b7,.int .i64 b8,.int .i64 b9,.slice ep b10 ec],.int .i64 pl] w5 fun e w'=>e=.returned (.int .i64 rc)∧(∃x',WkI w1 w' a M b (i+1+1) s' x')∧w'.1[wr.1.size]?=some (.cells #[.int .i64 b0,.int .i64 b1,.slice sp b2 sc,.int .i64 b3,.int .i64 b4,.int .i64 b5,.slice bp b6 bc,.int .i64 b7,.int .i64 b8,.int .i64 b9,.slice ep b10 ec,.int .i64 pl] 38 (0,0))):=fun w5 hm hk=>by
   obtain⟨v0,g0,k1,k2⟩:=HI.out.walk
   have hlw:b<wr.1.size:=k2.lt
   refine(hm.next hs' HI.out.twin k1.good HI.out.base HI.out.few (by omega) hfw hfb _ hF1).mono fun e w' ⟨y1,y2,y3⟩=>⟨by rw[hrc];exact y1,y2,?_⟩
   rw[y3.block wr.1.size (av hk) (by omega)]
   exact hk
  have HN3:Hid (∀w6 x',WkI w1 w6 a M b (i+1+1) s' x'->w6.1[wr.1.size]?=some (.cells #[.int .i64 b0,.int .i64 b1,.slice sp b2 sc,.int .i64 b3,.int .i64 b4,.int .i64 b5,.slice bp b6 bc,.int .i64 b7,.int .i64 b8,.int .i64 b9,.slice ep b10 ec,.int .i64 pl] 38 (0,0))->Calls Tryz.prog 11 #[.pointer (some ⟨a,0,none⟩),.pointer (some ⟨b,0,none⟩),.slice (some ⟨w6.1.size,0,none⟩) 2 2] (w6.alloc (.cells #[.int .i64 n,.int .i64 b1] 2)) fun e w'=>e=.returned (.bool true)∧WkI w1 w' a M b (i+1+1) s' x'∧w'.1[wr.1.size]?=some (.cells #[.int .i64 b0,.int .i64 b1,.slice sp b2 sc,.int .i64 b3,.int .i64 b4,.int .i64 b5,.slice bp b6 bc,.int .i64 b7,.int .i64 b8,.int .i64 b9,.slice ep b10 ec,.int .i64 pl] 38 (0,0))):=fun w6 x' hI hk=>by
   have hb7:Below w6.1.size w6 (w6.alloc (.cells #[.int .i64 n,.int .i64 b1] 2)):=vY
   have hI7:=hI.on hb7
   obtain⟨v0,g0,k1,k2⟩:=hI7.walk
   refine(pO k1 k2 k1.notb hI7.twin (some ⟨w6.1.size,0,none⟩) 2 [n,b1] (by simp) (fun m hm=>?_) (fun j hj=>?_)).mono fun e w' ⟨y1,y2⟩=>⟨y1,hI7.on y2,?_⟩
   ·simp only[List.mem_cons,List.not_mem_nil,or_false] at hm
    rcases hm with rfl | rfl
    ·exact HN.out
    ·exact hn64
   ·have hj2:j<2:=hj
    refine⟨w6.1.size,0,rfl,by simp,?_⟩
    match j,hj2 with
    |0,_=>exact aa (af w6 _) 0
    |1,_=>exact aa (af w6 _) 1
   ·exact(y2.block _ (av ((hb7.block _ (av hk)).trans hk))).trans ((hb7.block _ (av hk)).trans hk)
  obtain⟨x0,x1,x2,x3,x4,x5,x6,x7,x8,x9,x10,x11⟩:=dN hbk
  clear hrc hs' hI0 hF1 hFu hFl hPA hfw hfb hb0 hbk hW0 hBr HI HI4 hn64 HHv HWf hq0 hq1 hq2 hq3 hq4 hq5 hq6 hq7 hq8 hq9 hq10
  go_wp2_with fail
  rw[HW0.out]
  go_region_held3 (fun w'=>w'.cell? ⟨wr.1.size,0,none⟩=some (.int .i64 b0)∧w'.cell? ⟨wr.1.size,1,none⟩=some (.int .i64 b1)∧w'.cell? ⟨wr.1.size,2,none⟩=some (.slice sp b2 sc)∧w'.cell? ⟨wr.1.size,3,none⟩=some (.int .i64 b3)∧w'.cell? ⟨wr.1.size,4,none⟩=some (.int .i64 b4)∧w'.cell? ⟨wr.1.size,5,none⟩=some (.int .i64 b5)∧w'.cell? ⟨wr.1.size,6,none⟩=some (.slice bp b6 bc)∧w'.cell? ⟨wr.1.size,7,none⟩=some (.int .i64 b7)∧w'.cell? ⟨wr.1.size,8,none⟩=some (.int .i64 b8)∧w'.cell? ⟨wr.1.size,9,none⟩=some (.int .i64 b9)∧w'.cell? ⟨wr.1.size,10,none⟩=some (.slice ep b10 ec)∧w'.cell? ⟨wr.1.size,11,none⟩=some (.int .i64 pl)∧w'.cell? ⟨w.1.size+1,0,none⟩=some (.int .i64 n)) (go_keep) (first
   | (go_at_call 9;refine HN1.out.mono ?_;rintro e w5 ⟨rfl,hm5,hk5⟩;obtain⟨y0,y1,y2,y3,y4,y5,y6,y7,y8,y9,y10,y11⟩:=dN hk5;have HM5:=vQ hm5;have HK5:=vQ hk5;have s5:=(HCs.out _ (HC1.out.trans (hm5.below.mono HC1.out.size))).2.1;clear hm5 hk5)
   | (go_at_call 10;refine(HN2.out _ HM5.out HK5.out).mono ?_;rintro e w6 ⟨rfl,⟨x',hi6⟩,hk6⟩;obtain⟨z0,z1,z2,z3,z4,z5,z6,z7,z8,z9,z10,z11⟩:=dN hk6;have HM6:=vQ hi6;have HK6:=vQ hk6;have s6:=(HCs.out _ (HC1.out.trans (hi6.below.mono HC1.out.size))).2.1;clear hi6 hk6)
   | (go_at_call 11;refine(HN3.out _ _ HM6.out HK6.out).mono ?_;rintro e w8 ⟨rfl,hi8,hk8⟩;obtain⟨t0,t1,t2,t3,t4,t5,t6,t7,t8,t9,t10,t11⟩:=dN hk8;have HM8:=vQ hi8;have s8:=(HCs.out _ (HC1.out.trans (hi8.below.mono HC1.out.size))).2.1;clear hi8 hk8)
   |fail)
  go_wp2
  go_roundw
  case rel=>exact⟨i+1,_,_,by omega,by go_num,HM8⟩
  case measure=>simp[intOf];omega
end
end Go.Proofs.YtlgfdgdlaahpfaaGreatDoor
