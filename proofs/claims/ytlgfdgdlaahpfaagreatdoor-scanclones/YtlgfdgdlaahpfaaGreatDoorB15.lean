import Derived.Test.YtlgfdgdlaahpfaaGreatDoorB10
import Derived.Deep.RegionLaw
import Derived.Test.YtlgfdgdlaahpfaaGreatDoorB14
set_option maxRecDepth 100000
set_option maxHeartbeats 4000000
namespace Go.Proofs.YtlgfdgdlaahpfaaGreatDoor
section
open Go.RowKit
structure bB(w:World)(B:Nat)(v:Value)(w':World)(v':Value)(l:L8):Prop where
 has:Has w' B v' l
 aside:Aside (fun k=>v.ownBlock=some k) w w'
 fresh:∀k,v'.ownBlock=some k->v.ownBlock=some k∨w.1.size<=k
theorem bB.refl{w:World}{B:Nat}{v:Value}{l:L8}(h:Has w B v l):bB w B v w v l:=⟨h,Aside.refl _ _,fun _ hk=>.inl hk⟩
theorem bB.trans{w w1 w2:World}{B:Nat}{v v1 v2:Value}{l1 l2:L8}(h:bB w B v w1 v1 l1)(k:bB w1 B v1 w2 v2 l2):bB w B v w2 v2 l2:=by
 have hs:=h.aside.size
 refine⟨k.has,h.aside.trans k.aside (fun i hi hc=>?_),fun i hi=>?_⟩
 ·rcases h.fresh i hc with h1 | h1
  ·exact h1
  ·omega
 ·rcases k.fresh i hi with h1 | h1
  ·rcases h.fresh i h1 with h2 | h2
   ·exact .inl h2
   ·exact .inr h2
  ·exact .inr (by omega)
theorem bB.on{w w1 w2:World}{B:Nat}{v v1:Value}{l:L8}(h:bB w B v w1 v1 l)(hb:Below w1.1.size w1 w2):bB w B v w2 v1 l :=
 ⟨h.has.on hb,h.aside.trans (ae hb (fun _=>False)) (fun _ _ hc=>hc.elim),h.fresh⟩
theorem bB.from{w w0 w1:World}{B:Nat}{v v1:Value}{l l0:L8}(h:bB w0 B v w1 v1 l)(hb:Below w.1.size w w0)(_:Has w B v l0):bB w B v w1 v1 l:=by
 have hs:=hb.size
 refine⟨h.has,(ae hb (fun k=>v.ownBlock=some k)).trans h.aside (fun _ _ hc=>hc),fun k hk=>?_⟩
 rcases h.fresh k hk with h1 | h1
 ·exact .inl h1
 ·exact .inr (by omega)
theorem bB.low{w w1:World}{B:Nat}{v v1:Value}{l l0:L8}(h:bB w B v w1 v1 l)(h0:Has w B v l0)(hB:B<=w.1.size):Below B w w1:=ar h.aside h0 hB
def fB(w:World)(B:Nat)(v:Value)(l:L8)(e:Ending)(w':World):Prop:=∃q cap,e=.returned (.slice q l.length cap)∧bB w B v w' (.slice q l.length cap) l
theorem gj(v:Value)(xs:L8)(t:ByteArray)(B:Nat)(w:World)(hv:Has w B v xs)(hB:B<=w.1.size)(hx:xs.length<=1000000)(ht:t.size<=1024):
    Calls Tryz.prog 127 #[v,.string t] w (fB w B v (xs++(Leb.put t.size++t.data.toList))):=by
  have HP:=vQ (fe t.size (by omega))
  have hlen:=Leb.put_length_le t.size
  obtain⟨l0,hl0⟩:∃l0,l0=Leb.put t.size:=⟨_,rfl⟩
  rw[<-hl0] at HP hlen ⊢
  have hts:(t.size:Int)<=1024:=by omega
  have HV:=vQ hv
  clear hl0 hv
  go_enter Tryz.func127,Tryz.ntmps127
  go_wp2_with fail
  refine(HP.out _).mono ?_
  rintro e w1 ⟨g,cap,rfl,hm,hb⟩
  have HM:=vQ hm
  have HV1:=vQ (HV.out.on hb)
  have HG0:=vQ ((bB.refl HV.out).on hb)
  have hB1:B<=w1.1.size:=Nat.le_trans hB hb.size
  clear hm hb HP
  go_wp2_with (first
    | (at_builtin;refine au (B:=B) HV1.out HM.out.at (by omega) hB1 rfl rfl rfl rfl rfl ?_;intro ys q3 cap3 W HY hH3 ha3 hb3;have hlY:ys.length<=1000010:=by(rw[HY.out,List.length_append];omega)
       have HH3:=vQ hH3
       have HG1:Hid (bB w B v W (.slice q3 ys.length cap3) ys):=HG0.out.trans ⟨hH3,ha3,hb3⟩
       have hBW:B<=W.1.size:=Nat.le_trans hB1 ha3.size
       clear hH3 ha3 hb3)
    | (at_builtin;refine eV (B:=B) (t:=t) HH3.out (by omega) hBW rfl rfl rfl rfl rfl ?_;intro ys2 q4 cap4 W2 HY2 hH4 ha4 hb4
       have HG2:Hid (bB w B v W2 (.slice q4 ys2.length cap4) ys2):=HG1.out.trans ⟨hH4,ha4,hb4⟩
       clear hH4 ha4 hb4))
  go_ret
  rw[HY.out,List.append_assoc] at HY2
  rw[<-HY2.out]
  exact⟨q4,cap4,rfl,HG2.out⟩
theorem py{x:Ty}{d:Nat}(h:Ty.check d x=0):(Sch.tyB x).length<=5:=by have:=Sch.tyB_len x d h;omega
theorem jC(w:World)(z:Int)(c:UInt8)(hz:z=(c.toNat:Int)):At (w.alloc (.cells #[.int .u8 z] 5)) (some ⟨w.1.size,0,none⟩) [c]:=by
 obtain⟨p,cc,he,hat,-⟩:=(bF (B:=0) (w:=w) [c] (C:=#[.int .u8 z]) (by rw[hz];rfl) (Nat.zero_le _) (by simp)).at
 injection he with he
 rw[he];exact hat
theorem gH{B:Nat}{v:Value}{xs:L8}{w:World}{H:Nat}(hH:w.1.size=H)(hown:Has w B v xs)(c:UInt8)(hlen:xs.length+1<=140737488355328)(hB:B<=w.1.size){z:Int}{ops:Array Oper}{rest:List Oper}{o:Oper}{a:Act}{Q:Exit->Act->World->Prop}{s x:Operand}(hz:z=(c.toNat:Int))(ht:o.type=31)(hg:o.guard=none)(hop:o.op=Op.call { callee:=Callee.builtin Builtin.append,args:=#[s,x],argTypes:=#[31,31] })(hs:a.eval s=v)(hx:a.eval x=.slice (some ⟨H,0,none⟩) 1 1)(hK:∀q cap W ys,Hid (ys=xs++[c])->bB w B v W (.slice q ys.length cap) ys->wpList Tryz.prog ops Q rest (a.put o.dst (.slice q ys.length cap)) W):
  wpList Tryz.prog ops Q (o::rest) a (w.alloc (.cells #[.int .u8 z] 5)):=by
 subst hH
 have hb:Below w.1.size w (w.alloc (.cells #[.int .u8 z] 5)):=vY
 refine au (hown.alloc _) (jC w z c hz) (by simp only[List.length_singleton];omega) (Nat.le_trans hB hb.size) ht hg hop hs hx ?_
 intro ys q cap W hy h1 h2 h3
 exact hK q cap W ys hy (bB.from ⟨h1,h2,h3⟩ hb hown)
theorem lm:∀(x:Ty) (d:Nat) (w0 w:World) (u:AV) (v:Value) (xs:L8),Ty.check d x=0->ay w0 u x->Below w0.1.size w0 w->Has w w0.1.size v xs->xs.length+5*(5-d)<=1000000->Calls Tryz.prog 128 #[v,.agg u] w (fB w w0.1.size v (xs++Sch.tyB x)):=by
  intro x
  refine Ty.ind (P:=fun x=>∀(d:Nat) (w0 w:World) (u:AV) (v:Value) (xs:L8),Ty.check d x=0->ay w0 u x->Below w0.1.size w0 w->Has w w0.1.size v xs->xs.length+5*(5-d)<=1000000->Calls Tryz.prog 128 #[v,.agg u] w (fB w w0.1.size v (xs++Sch.tyB x))) ?_ x
  rintro k ts ih d w0 w u v xs hd hx hb0 hv hlen
  obtain⟨p,c,rfl,hxl,hxc,hxi⟩:=hx.open
  unfold al
  have hBs:=hb0.size
  have hB1:Below w.1.size w (w.alloc (.cells #[.int .i64 k,.slice p ts.length c] 83)):=vY
  have HB1:=vQ hB1
  have HB0:=vQ hb0
  have HV:=vQ hv
  clear hB1 hx hb0 hv
  obtain⟨hd4,hk,htt⟩:=Sch.ty_open hd
  obtain⟨hk1,hk7⟩:=hk
  have hcn:=Sch.kind_byte ⟨hk1,hk7⟩
  obtain⟨c0,hc0⟩:∃c0,c0=UInt8.ofNat k.toNat:=⟨_,rfl⟩
  have hkz:k=(c0.toNat:Int):=by rw[hc0,hcn];omega
  have HKz:=vQ hkz
  have HH1:=vQ (HV.out.on HB1.out)
  have hB1s:w0.1.size<=(w.alloc (.cells #[.int .i64 k,.slice p ts.length c] 83)).1.size:=Nat.le_trans hBs HB1.out.size
  have HT:Hid (Sch.tyB (.mk k ts)=[c0]++(ts.map Sch.tyB).flatten∧ts.length<=1∧∀y∈ts,Ty.check (d+1) y=0):=by
    show _∧_∧_
    rcases htt with ⟨h67,rfl⟩ | ⟨h67,y,rfl,hy⟩
    · exact⟨by rw[Sch.tyB_mk,if_neg h67,hc0];rfl,by simp,fun y hy=>by cases hy⟩
    · refine⟨by rw[Sch.tyB_mk,if_pos h67,hc0];simp,by simp,fun z hz=>?_⟩
      rw[List.mem_singleton] at hz
      rw[hz];exact hy
  have HX:Hid (∀j (hj:j<ts.length),∃u',ay w0 u' ts[j]∧dB w0 p j u'):=hxi
  have HIH:=vQ ih
  have HAt:Hid (At ((w.alloc (.cells #[.int .i64 k,.slice p ts.length c] 83)).alloc (.cells #[.int .u8 k] 5)) (some ⟨w.1.size+1,0,none⟩) [c0]):=by
    show At _ _ _
    have:=jC (w.alloc (.cells #[.int .i64 k,.slice p ts.length c] 83)) k c0 HKz.out
    simpa using this
  clear ih hxi hd hkz hcn hc0 htt
  go_enter Tryz.func128,Tryz.ntmps128
  go_wp2_with (first
    | (at_builtin;refine au (B:=w0.1.size) (l:=[c0]) (HH1.out.alloc _) HAt.out (by simp;omega) (Nat.le_trans hB1s (by simp)) rfl rfl rfl rfl rfl ?_
       intro ys q3 cap3 W HY hH3 ha3 hb3
       have HG1:Hid (bB w w0.1.size v W (.slice q3 ys.length cap3) ys):=by
         refine bB.from (w0:=(w.alloc (.cells #[.int .i64 k,.slice p ts.length c] 83)).alloc (.cells #[.int .u8 k] 5)) ⟨hH3,ha3,hb3⟩ ?_ HV.out
         exact HB1.out.alloc HB1.out.size _
       have c1:W.cell? ⟨w.1.size,1,none⟩=some (.slice p ts.length c):=by
         rw[ha3.cell (by simp;omega) (fun hc=>by have:=(HV.out.lt _ hc).2;simp at this)]
         simp
       clear hH3 ha3 hb3))
  have HY0:Hid (ys=xs++([c0]++((ts.take 0).map Sch.tyB).flatten)):=by show _=_;rw[HY.out];simp
  clear HY HAt HH1 c1
  go_loopw [0,16] (fun v0 v16 wr=>∃(j:Nat) (zs:L8) (q:OA) (cap:Nat),j<=ts.length∧v16=.int .i64 j∧v0=.slice q zs.length cap∧Hid (zs=xs++([c0]++((ts.take j).map Sch.tyB).flatten)∧bB w w0.1.size v wr (.slice q zs.length cap) zs)) (fun _ v16 _=>ts.length-(intOf v16).toNat)
  case atStart=>exact⟨0,ys,q3,cap3,by omega,rfl,rfl,HY0.out,HG1.out⟩
  case round=>
    obtain⟨j,zs,q,cap,hj,rfl,rfl,HL⟩:=hrel
    have hbr:Below w0.1.size w0 wr:=HB0.out.trans (HL.out.2.low HV.out hBs)
    by_cases hlt:j<ts.length
    · obtain⟨ux,hvx,hix⟩:=HX.out j hlt
      obtain⟨bx,ox,kx,qx,nx,cx,rfl,_,rfl,a0,a1⟩:=(hix.on hbr).lies
      have hj1:(j:Int)<(ts.length:Int):=by omega
      have hj0:j=0:=by have:=HT.out.2.1;omega
      have hz1:zs.length=xs.length+1:=by rw[HL.out.1,hj0];simp
      obtain⟨wa,hwa⟩:∃wa,wa=wr.alloc (.cells #[.int .i64 kx,.slice qx nx cx] 83):=⟨_,rfl⟩
      have HBa:Hid (Below wr.1.size wr wa):=by rw[hwa];exact vY
      have HC:=vQ (HIH.out _ (List.getElem_mem hlt) (d+1) w0 wa _ (.slice q zs.length cap) zs (HT.out.2.2 _ (List.getElem_mem hlt)) hvx (hbr.trans (HBa.out.mono hbr.size)) (HL.out.2.has.on HBa.out) (by omega))
      have HGa:=vQ (HL.out.2.on HBa.out)
      have HZ:Hid (zs++Sch.tyB ts[j]=xs++([c0]++((ts.take (j+1)).map Sch.tyB).flatten)):=by
        show _=_
        rw[HL.out.1,Sch.flatten_take Sch.tyB ts j hlt]
        simp
      obtain⟨l2,hl2⟩:∃l,l=zs++Sch.tyB ts[j]:=⟨_,rfl⟩
      rw[<-hl2] at HC HZ
      unfold al at HC
      have HWa:=vQ hwa
      clear hvx hix hbr HL hwa hl2 hj0 hz1
      go_wp2_with fail
      rw[<-HWa.out]
      clear HWa a0 a1
      refine HC.out.mono ?_
      rintro e w2 ⟨q2,cap2,rfl,hg2⟩
      have HG2:=vQ (HGa.out.trans hg2)
      clear hg2 HC HGa
      go_wp2
      go_roundw
      case rel=>exact⟨j+1,l2,q2,cap2,by omega,by go_num,rfl,HZ.out,HG2.out⟩
      case measure=>simp[intOf];omega
    · have hjn:¬(j:Int)<(ts.length:Int):=by omega
      have HE:Hid (xs++Sch.tyB (.mk k ts)=zs):=by
        show _=_
        rw[HL.out.1,HT.out.1,List.take_of_length_le (by omega)]
      have HG:=vQ HL.out.2
      clear HL hbr
      go_wp2
      go_ret
      rw[HE.out]
      exact⟨q,cap,rfl,HG.out⟩
theorem jY(v:Value)(xs:L8)(b:Nat)(hb64:b<18446744073709551616)(B:Nat)(w:World)(hv:Has w B v xs)(hB:B<=w.1.size)(hx:xs.length<=1000000):
    Calls Tryz.prog 156 #[v,.float .f64 b] w (fB w B v (xs++Sch.le 8 (aC b))):=by
  have hf:=Sch.fixB_lt hb64
  have HBits:=vQ (dF b)
  generalize aC b=m at *
  have HS:Hid (ju m [] m):=⟨by simp,hf,rfl⟩
  have HV:=vQ hv
  obtain⟨q0,cap0,rfl,-,-⟩:=hv.at
  clear hf hb64 hv
  go_enter Tryz.func156,Tryz.ntmps156
  go_wp2_with fail
  refine(HBits.out _).mono ?_
  rintro e w1 ⟨rfl,hw1⟩
  rw[hw1]
  clear hw1 w1
  go_wp2_with fail
  go_loopw [0,5,8] (fun v0 v5 v8 wr=>∃(n:Nat) (es zs:L8) (q:OA) (cap:Nat),v0=.slice q zs.length cap∧v5=.int .u64 n∧v8=.int .i64 es.length∧es.length<=8∧n<18446744073709551616∧Hid (ju m es n∧zs=xs++es∧bB w B (.slice q0 xs.length cap0) wr (.slice q zs.length cap) zs)) (fun _ _ v8 _=>8-(intOf v8).toNat)
  case atStart=>exact⟨m,[],xs,q0,cap0,rfl,rfl,rfl,by simp,HS.out.2.1,HS.out,by simp,bB.refl HV.out⟩
  case round=>
    obtain⟨z,es,zs,q,cap,rfl,rfl,rfl,h8,hz,HK⟩:=hrel
    have hBr:B<=wr.1.size:=Nat.le_trans hB HK.out.2.2.aside.size
    have HZl:Hid (zs.length=xs.length+es.length):=by show _=_;rw[HK.out.2.1,List.length_append]
    by_cases hlt:es.length<8
    · have hlt':(es.length:Int)<8:=by omega
      have HN:=vQ (ir HK.out.1 hlt)
      have hcn:(UInt8.ofNat (z % 256)).toNat=z % 256:=by rw[UInt8.toNat_ofNat'];omega
      generalize UInt8.ofNat (z % 256)=c1 at hcn HN
      have HO:=vQ HK.out.2.2.has
      go_wp2_with (first
        | (at_builtin;refine gH rfl HO.out c1 (by have:=HZl.out;omega) hBr (by omega) rfl rfl rfl rfl rfl ?_
           intro q2 cap2 W ys HY hg2
           have HG2:=vQ (HK.out.2.2.trans hg2)
           clear hg2))
      go_roundw
      case rel=>exact⟨z / 256,es++[c1],ys,q2,cap2,rfl,by go_num,by simp,by simp;omega,by omega,HN.out,by rw[HY.out,HK.out.2.1,List.append_assoc],HG2.out⟩
      case measure=>simp[intOf];omega
    · have hjn:¬(es.length:Int)<8:=by omega
      have he:Sch.le 8 m=es:=by
        rw[HK.out.1.2.2,show 8-es.length=0 by omega]
        simp[Sch.le]
      have HE:Hid (xs++Sch.le 8 m=zs):=by show _=_;rw[he,HK.out.2.1]
      have HF:=vQ HK.out.2.2
      clear HK he
      go_wp2
      go_ret
      rw[HE.out]
      exact⟨q,cap,rfl,HF.out⟩
end
section
open Go.RowKit
attribute [local go_sem] ai
structure pe(xs full ys:L8):Prop where
 eq:ys=xs++full∨(1024<ys.length∧1024<(xs++full).length)
 len:ys.length<=max xs.length 1024+1034
theorem pe.all{xs full:L8}(h:full.length<=1034):pe xs full (xs++full):=⟨.inl rfl,by rw[List.length_append];omega⟩
def pf(w:World)(B:Nat)(v:Value)(xs full:L8)(e:Ending)(w':World):Prop:=∃ys q cap,pe xs full ys∧e=.returned (.slice q ys.length cap)∧bB w B v w' (.slice q ys.length cap) ys
theorem gB{w w':World}{B:Nat}{v:Value}{xs full:L8}{e:Ending}(h:fB w B v (xs++full) e w')(hl:full.length<=1034):pf w B v xs full e w':=by
 obtain⟨q,cap,h1,h2⟩:=h
 exact⟨_,q,cap,pe.all hl,h1,h2⟩
def nH(items:List V):Prop:=∀x∈items,∀(w0 w:World) (u:AV) (v:Value) (xs:L8),ax w0 u x->Below w0.1.size w0 w->Has w w0.1.size v xs->xs.length<=100000->Calls Tryz.prog 129 #[v,.agg u] w (pf w w0.1.size v xs (Sch.vB x))
theorem jX(items:List V)(hn:items.length<=256)(ih:nH items)(p:OA)(c:Nat)(w0 w:World)(v:Value)(xs:L8)(hx:dl w0 p items)(hb0:Below w0.1.size w0 w)(hv:Has w w0.1.size v xs)(hlen:xs.length<=100000):
    Calls Tryz.prog 157 #[v,.slice p items.length c] w (pf w w0.1.size v xs (Leb.put items.length++(items.map Sch.vB).flatten)):=by
  have HP:=vQ (fe items.length (by omega))
  have hpl:=Leb.put_length_le items.length
  obtain⟨l0,hl0⟩:∃l0,l0=Leb.put items.length:=⟨_,rfl⟩
  rw[<-hl0] at HP hpl ⊢
  have hn':(items.length:Int)<=256:=by omega
  have HV:=vQ hv
  have HX:=vQ hx
  have HIH:=vQ ih
  have HB0:=vQ hb0
  have hBs:=hb0.size
  obtain⟨q0,cap0,rfl,-,-⟩:=hv.at
  clear hl0 hv hx ih hb0
  go_enter Tryz.func157,Tryz.ntmps157
  go_wp2_with fail
  refine(HP.out _).mono ?_
  rintro e w1 ⟨g,cap,rfl,hm,hb⟩
  have HM:=vQ hm
  have HV1:=vQ (HV.out.on hb)
  have HG0:=vQ ((bB.refl HV.out).on hb)
  have hB1:w0.1.size<=w1.1.size:=Nat.le_trans hBs hb.size
  clear hm hb HP
  go_wp2_with (first
    | (at_builtin;refine au (B:=w0.1.size) HV1.out HM.out.at (by omega) hB1 rfl rfl rfl rfl rfl ?_;intro ys q3 cap3 W HY hH3 ha3 hb3
       have HG1:Hid (bB w w0.1.size (.slice q0 xs.length cap0) W (.slice q3 ys.length cap3) ys):=HG0.out.trans ⟨hH3,ha3,hb3⟩
       clear hH3 ha3 hb3))
  have HY0:Hid ((ys=xs++(l0++((items.take 0).map Sch.vB).flatten)∨(1024<ys.length∧1024<(xs++(l0++((items.take 0).map Sch.vB).flatten)).length))∧ys.length<=max xs.length 1024+1034):=by
    refine⟨.inl ?_,?_⟩
    · rw[HY.out];simp
    · rw[HY.out,List.length_append];omega
  clear HY HM HV1 HG0
  go_loopw [0,15] (fun v0 v15 wr=>∃(j:Nat) (zs:L8) (q:OA) (cap:Nat),j<=items.length∧v15=.int .i64 j∧v0=.slice q zs.length cap∧zs.length<=200000∧Hid (((zs=xs++(l0++((items.take j).map Sch.vB).flatten)∨(1024<zs.length∧1024<(xs++(l0++((items.take j).map Sch.vB).flatten)).length))∧zs.length<=max xs.length 1024+1034)∧bB w w0.1.size (.slice q0 xs.length cap0) wr (.slice q zs.length cap) zs)) (fun _ v15 _=>items.length-(intOf v15).toNat)
  case atStart=>exact⟨0,ys,q3,cap3,by omega,rfl,rfl,by have:=HY0.out.2;omega,HY0.out,HG1.out⟩
  case round=>
    obtain⟨j,zs,q,cap,hj,rfl,rfl,hzl,HL⟩:=hrel
    have hbr:Below w0.1.size w0 wr:=HB0.out.trans (HL.out.2.low HV.out hBs)
    by_cases hlt:j<items.length
    · obtain⟨ux,hvx,hix⟩:=HX.out j hlt
      obtain⟨bx,ox,kx,ix,fx,tx,qx,nx,cx,rfl,_,rfl,a0,a1,a2,a3,a4⟩:=(hix.on hbr).lies
      have hj1:(j:Int)<(items.length:Int):=by omega
      obtain⟨wa,hwa⟩:∃wa,wa=wr.alloc (.cells #[.int .i64 kx,.int .i64 ix,.float .f64 fx,.string tx,.slice qx nx cx] 87):=⟨_,rfl⟩
      have HBa:Hid (Below wr.1.size wr wa):=by rw[hwa];exact vY
      have HAs:Hid (wa.cell? ⟨wr.1.size,0,none⟩=some (.int .i64 kx)∧wa.cell? ⟨wr.1.size,1,none⟩=some (.int .i64 ix)∧wa.cell? ⟨wr.1.size,2,none⟩=some (.float .f64 fx)∧wa.cell? ⟨wr.1.size,3,none⟩=some (.string tx)∧wa.cell? ⟨wr.1.size,4,none⟩=some (.slice qx nx cx)):=by rw[hwa];exact⟨by simp,by simp,by simp,by simp,by simp⟩
      have HGa:=vQ (HL.out.2.on HBa.out)
      have HWa:=vQ hwa
      by_cases hbig:1024<zs.length
      · have gb:(1024:Int)<(zs.length:Int):=by omega
        have HPv:Hid (pe xs (l0++(items.map Sch.vB).flatten) zs):=by
          refine⟨.inr ⟨hbig,?_⟩,HL.out.1.2⟩
          have h1:=Sch.flatten_take_le Sch.vB items j
          rw[List.length_append,List.length_append]
          rcases HL.out.1.1 with h2 | h2
          · rw[h2,List.length_append,List.length_append] at hbig
            omega
          · have h3:=h2.2
            rw[List.length_append,List.length_append] at h3
            omega
        clear hvx hix hbr HL hwa HAs hbig
        go_wp2
        go_ret
        rw[<-HWa.out]
        exact⟨zs,q,cap,HPv.out,rfl,HGa.out⟩
      · have gb:¬(1024:Int)<(zs.length:Int):=by omega
        have HC:=vQ (HIH.out _ (List.getElem_mem hlt) w0 wa _ (.slice q zs.length cap) zs hvx (hbr.trans (HBa.out.mono hbr.size)) (HL.out.2.has.on HBa.out) (by omega))
        unfold cells5 at HC
        have HZ:Hid (zs=xs++(l0++((items.take j).map Sch.vB).flatten)):=by
          rcases HL.out.1.1 with h2 | h2
          · exact h2
          · exact absurd h2.1 hbig
        have HTk:=vQ (Sch.flatten_take Sch.vB items j hlt)
        have hzs:zs.length<=1024:=by omega
        obtain⟨full,hfull⟩:∃l,l=Sch.vB items[j]:=⟨_,rfl⟩
        rw[<-hfull] at HC HTk
        clear hvx hix hbr HL hwa hbig hfull
        go_wp2_with fail
        rw[<-HWa.out]
        clear HWa a0 a1 a2 a3 a4 HAs
        refine HC.out.mono ?_
        rintro e w2 ⟨ys2,q2,cap2,hpv,rfl,hg2⟩
        have HG2:=vQ (HGa.out.trans hg2)
        have HZ2:Hid ((ys2=xs++(l0++((items.take (j+1)).map Sch.vB).flatten)∨(1024<ys2.length∧1024<(xs++(l0++((items.take (j+1)).map Sch.vB).flatten)).length))∧ys2.length<=max xs.length 1024+1034):=by
          have e1:xs++(l0++((items.take (j+1)).map Sch.vB).flatten)=zs++full:=by rw[HTk.out,HZ.out];simp
          rw[e1]
          refine⟨hpv.eq,?_⟩
          have:=hpv.len
          omega
        have hys:ys2.length<=200000:=by have:=HZ2.out.2;omega
        clear hg2 HC HGa hpv HTk HZ
        go_wp2
        go_roundw
        case rel=>exact⟨j+1,ys2,q2,cap2,by omega,by go_num,rfl,hys,HZ2.out,HG2.out⟩
        case measure=>simp[intOf];omega
    · have hjn:¬(j:Int)<(items.length:Int):=by omega
      have HPv:Hid (pe xs (l0++(items.map Sch.vB).flatten) zs):=by
        have h1:=HL.out.1
        rw[List.take_of_length_le (by omega)] at h1
        exact⟨h1.1,h1.2⟩
      have HG:=vQ HL.out.2
      clear HL hbr
      go_wp2
      go_ret
      exact⟨zs,q,cap,HPv.out,rfl,HG.out⟩
end
section
open Go.RowKit
attribute [local go_sem] ai
theorem uC:Leb.put 0=[0]:=by kernel_rfl
theorem uB:Leb.put 1=[1]:=by kernel_rfl
section
variable {w w0:World} {v:Value} {xs:L8} (hb0:Below w0.1.size w0 w) (hv:Has w w0.1.size v xs) (hlen:xs.length<=100000)
include hb0 hv hlen
theorem iU(i:Int)(hi:i=0∨i=1)(b:Nat)(t:ByteArray)(p:OA)(n c:Nat):Calls Tryz.prog 129 #[v,.agg #[.int .i64 1,.int .i64 i,.float .f64 b,.string t,.slice p n c]] w (fB w w0.1.size v (xs++[UInt8.ofNat i.toNat])):=by
  obtain⟨c0,hc0⟩:∃c0,c0=UInt8.ofNat i.toNat:=⟨_,rfl⟩
  have hkz:i=(c0.toNat:Int):=by rw[hc0,UInt8.toNat_ofNat'];omega
  have HKz:=vQ hkz
  have hi1:0<=i:=by omega
  have hi2:i<=1:=by omega
  rw[<-hc0]
  have HV:=vQ hv
  have hBs:=hb0.size
  have HBx:Hid (Below w.1.size w (w.alloc (.cells #[.int .i64 1,.int .i64 i,.float .f64 b,.string t,.slice p n c] 87))):=vY
  have HVx:=vQ (hv.on HBx.out)
  have hBx:w0.1.size<=(w.alloc (.cells #[.int .i64 1,.int .i64 i,.float .f64 b,.string t,.slice p n c] 87)).1.size:=Nat.le_trans hBs HBx.out.size
  clear hkz hc0 hi hv hb0
  go_enter Tryz.func129,Tryz.ntmps129
  go_wp2_with (first
    | (at_builtin;refine gH (H:=w.1.size+1) (by simp) HVx.out c0 (by omega) hBx HKz.out rfl rfl rfl rfl rfl ?_
       intro q2 cap2 W ys HY hg2
       have HG2:=vQ (hg2.from HBx.out HV.out)
       clear hg2))
  go_ret
  rw[<-HY.out]
  exact⟨q2,cap2,rfl,HG2.out⟩
theorem iT(i:Int)(hi:-9223372036854775808<=i∧i<=9223372036854775807)(b:Nat)(t:ByteArray)(p:OA)(n c:Nat):Calls Tryz.prog 129 #[v,.agg #[.int .i64 2,.int .i64 i,.float .f64 b,.string t,.slice p n c]] w (fB w w0.1.size v (xs++Leb.put (Leb.zig i))):=by
  have hz:Leb.zig i<18446744073709551616:=by unfold Leb.zig;split <;> omega
  have HZ:=vQ (rI i hi.1 hi.2)
  have HP:=vQ (fe (Leb.zig i) hz)
  have hpl:=Leb.put_length_le (Leb.zig i)
  obtain⟨z,hzz⟩:∃z,z=Leb.zig i:=⟨_,rfl⟩
  rw[<-hzz] at HZ HP hpl ⊢
  obtain⟨l0,hl0⟩:∃l0,l0=Leb.put z:=⟨_,rfl⟩
  rw[<-hl0] at HP hpl ⊢
  have HV:=vQ hv
  have hBs:=hb0.size
  have HBx:Hid (Below w.1.size w (w.alloc (.cells #[.int .i64 2,.int .i64 i,.float .f64 b,.string t,.slice p n c] 87))):=vY
  clear hi hz hv hb0 hzz hl0
  go_enter Tryz.func129,Tryz.ntmps129
  go_wp2_with fail
  refine(HZ.out _).mono ?_
  rintro e w1 ⟨rfl,hw1⟩
  rw[hw1]
  clear hw1 w1
  go_wp2_with fail
  refine(HP.out _).mono ?_
  rintro e w1 ⟨g,cap,rfl,hm,hb⟩
  have HM:=vQ hm
  have HB1:=vQ (HBx.out.trans (hb.mono HBx.out.size))
  have HV1:=vQ (HV.out.on HB1.out)
  have hB1:w0.1.size<=w1.1.size:=Nat.le_trans hBs HB1.out.size
  clear hm hb HP
  go_wp2_with (first
    | (at_builtin;refine au (B:=w0.1.size) HV1.out HM.out.at (by omega) hB1 rfl rfl rfl rfl rfl ?_;intro ys q3 cap3 W HY hH3 ha3 hb3
       have HG1:Hid (bB w w0.1.size v W (.slice q3 ys.length cap3) ys):=bB.from ⟨hH3,ha3,hb3⟩ HB1.out HV.out
       clear hH3 ha3 hb3))
  go_ret
  rw[<-HY.out]
  exact⟨q3,cap3,rfl,HG1.out⟩
theorem iS(i:Int)(b:Nat)(hb64:b<18446744073709551616)(t:ByteArray)(p:OA)(n c:Nat):Calls Tryz.prog 129 #[v,.agg #[.int .i64 3,.int .i64 i,.float .f64 b,.string t,.slice p n c]] w (fB w w0.1.size v (xs++Sch.le 8 (aC b))):=by
 have HV:=vQ hv
 have hBs:=hb0.size
 have HBx:Hid (Below w.1.size w (w.alloc (.cells #[.int .i64 3,.int .i64 i,.float .f64 b,.string t,.slice p n c] 87))):=vY
 have HC:=vQ (jY v xs b hb64 w0.1.size _ (hv.on HBx.out) (Nat.le_trans hBs HBx.out.size) (by omega))
 obtain⟨l0,hl0⟩:∃l0,l0=xs++Sch.le 8 (aC b):=⟨_,rfl⟩
 rw[<-hl0] at HC ⊢
 clear hv hb0 hl0
 go_enter Tryz.func129,Tryz.ntmps129
 go_wp2_with fail
 refine HC.out.mono ?_
 rintro e w1 ⟨q2,cap2,rfl,hg2⟩
 have HG2:=vQ (hg2.from HBx.out HV.out)
 clear hg2 HC
 go_wp2
 go_ret
 exact⟨q2,cap2,rfl,HG2.out⟩
theorem iC(k i:Int)(hk:k=4∨k=5)(b:Nat)(t:ByteArray)(ht:t.size<=1024)(p:OA)(n c:Nat):Calls Tryz.prog 129 #[v,.agg #[.int .i64 k,.int .i64 i,.float .f64 b,.string t,.slice p n c]] w (fB w w0.1.size v (xs++(Leb.put t.size++t.data.toList))):=by
 have HV:=vQ hv
 have hBs:=hb0.size
 have HBx:Hid (Below w.1.size w (w.alloc (.cells #[.int .i64 k,.int .i64 i,.float .f64 b,.string t,.slice p n c] 87))):=vY
 have HC:=vQ (gj v xs t w0.1.size _ (hv.on HBx.out) (Nat.le_trans hBs HBx.out.size) (by omega) ht)
 obtain⟨l0,hl0⟩:∃l0,l0=xs++(Leb.put t.size++t.data.toList):=⟨_,rfl⟩
 rw[<-hl0] at HC ⊢
 clear hv hb0 hl0
 rcases hk with rfl | rfl
 all_goals
  go_enter Tryz.func129,Tryz.ntmps129
  go_wp2_with fail
  refine HC.out.mono ?_
  rintro e w1 ⟨q2,cap2,rfl,hg2⟩
  have HG2:=vQ (hg2.from HBx.out HV.out)
  clear hg2 HC
  go_wp2
  go_ret
  exact⟨q2,cap2,rfl,HG2.out⟩
theorem iB(k i:Int)(hk:k=6∨k=7)(b:Nat)(t:ByteArray)(items:List V)(hn:items.length<=256)(ih:nH items)(p:OA)(c:Nat)(hx:dl w0 p items):Calls Tryz.prog 129 #[v,.agg #[.int .i64 k,.int .i64 i,.float .f64 b,.string t,.slice p items.length c]] w (pf w w0.1.size v xs (Leb.put items.length++(items.map Sch.vB).flatten)):=by
 have HV:=vQ hv
 have hBs:=hb0.size
 have HBx:Hid (Below w.1.size w (w.alloc (.cells #[.int .i64 k,.int .i64 i,.float .f64 b,.string t,.slice p items.length c] 87))):=vY
 have HC:=vQ (jX items hn ih p c w0 _ v xs hx (hb0.trans (HBx.out.mono hBs)) (hv.on HBx.out) hlen)
 obtain⟨l0,hl0⟩:∃l0,l0=Leb.put items.length++(items.map Sch.vB).flatten:=⟨_,rfl⟩
 rw[<-hl0] at HC ⊢
 clear hv hb0 hl0 hx ih
 rcases hk with rfl | rfl
 all_goals
  go_enter Tryz.func129,Tryz.ntmps129
  go_wp2_with fail
  refine HC.out.mono ?_
  rintro e w1 ⟨ys,q2,cap2,hpv,rfl,hg2⟩
  have HPv:=vQ hpv
  have HG2:=vQ (hg2.from HBx.out HV.out)
  clear hg2 HC hpv
  go_wp2
  go_ret
  exact⟨ys,q2,cap2,HPv.out,rfl,HG2.out⟩
end
theorem jW:∀(x:V) (d:Nat) (w0 w:World) (u:AV) (v:Value) (xs:L8),chk d x=0->x.wf->ax w0 u x->Below w0.1.size w0 w->Has w w0.1.size v xs->xs.length<=100000->Calls Tryz.prog 129 #[v,.agg u] w (pf w w0.1.size v xs (Sch.vB x)):=by
 intro x
 refine V.ind (P:=fun x=>∀(d:Nat) (w0 w:World) (u:AV) (v:Value) (xs:L8),chk d x=0->x.wf->ax w0 u x->Below w0.1.size w0 w->Has w w0.1.size v xs->xs.length<=100000->Calls Tryz.prog 129 #[v,.agg u] w (pf w w0.1.size v xs (Sch.vB x))) ?_ x
 rintro k i b t items ih d w0 w u v xs hc hwf hx hb0 hv hlen
 obtain⟨p,c,rfl,hxl,hxc,hxi⟩:=hx.open
 obtain⟨wk,wi,wb,wt,wx⟩:=V.wf_mk.1 hwf
 obtain⟨hd4,ho,ht,hn,-,hcx⟩:=Sch.chk_open hc
 obtain⟨hk,-,-,-,o5,o6,o7⟩:=Sch.own_open ho
 unfold cells5
 have hvh:(Sch.vH k i b t items.length).length<=1034:=Sch.vH_len ht
 have hcase:k=1∨k=2∨k=3∨(k=4∨k=5)∨(k=6∨k=7):=by omega
 rcases hcase with h | h | h | h | h
 ·have e:Sch.vB (.mk k i b t items)=[UInt8.ofNat i.toNat]:=by rw[Sch.vB_mk,Sch.vH,if_pos h,if_pos (.inl h),List.append_nil]
  rw[e]
  subst h
  exact(iU hb0 hv hlen i (o6 rfl) b t p items.length c).mono fun _ _ h=>gB h (by simp)
 ·have e:Sch.vB (.mk k i b t items)=Leb.put (Leb.zig i):=by rw[Sch.vB_mk,Sch.vH,if_neg (by omega),if_pos h,if_pos (.inr (.inl h)),List.append_nil]
  rw[e]
  subst h
  exact(iT hb0 hv hlen i wi b t p items.length c).mono fun _ _ h=>gB h (by have:=Leb.put_length_le (Leb.zig i);omega)
 ·have e:Sch.vB (.mk k i b t items)=Sch.le 8 (aC b):=by rw[Sch.vB_mk,Sch.vH,if_neg (by omega),if_neg (by omega),if_pos h,if_pos (.inr (.inr (.inl h))),List.append_nil]
  rw[e]
  subst h
  exact(iS hb0 hv hlen i b wb t p items.length c).mono fun _ _ h=>gB h (by rw[Sch.le_len];omega)
 ·have e:Sch.vB (.mk k i b t items)=Leb.put t.size++t.data.toList:=by rw[Sch.vB_mk,Sch.vH,if_neg (by omega),if_neg (by omega),if_neg (by omega),if_pos h,if_pos (by omega),List.append_nil]
  rw[e]
  exact(iC hb0 hv hlen k i h b t ht p items.length c).mono fun _ _ h=>gB h (by
   have:=Leb.put_length_le t.size
   have hs:t.data.toList.length=t.size:=by rw[Array.length_toList];rfl
   rw[List.length_append];omega)
 ·have e:Sch.vB (.mk k i b t items)=Leb.put items.length++(items.map Sch.vB).flatten:=by
   rw[Sch.vB_mk,Sch.vH,if_neg (by omega),if_neg (by omega),if_neg (by omega),if_neg (by omega),if_neg (c:=k=1∨k=2∨k=3∨k=4∨k=5) (by omega)]
   congr 1
   rcases h with h | h
   ·rw[if_pos h]
    have h2:=o7 h
    have h3:items.length=0∨items.length=1:=by omega
    rcases h3 with h3 | h3
    ·rw[h3,uC];rfl
    ·rw[h3,uB];rfl
   ·rw[if_neg (by omega),if_pos h]
  rw[e]
  exact iB hb0 hv hlen k i h b t items hn (fun y hy w0 w u v xs h1 h2 h3 h4=>ih y hy (d+1) w0 w u v xs (hcx y hy) (wx y hy) h1 h2 h3 h4) p c hxi
end
section
open Go.RowKit
attribute [local go_sem] ai
theorem lI{w:World}{ops:Array Oper}{o:Oper}{a:Act}{K:Act->World->Prop}{Q:Exit->Act->World->Prop}{E:Prop}{f:FuncId}{fn:Func}{code:Code}{u v:Value}{R:Ending->World->Prop}(x y:Operand)(t t':TypeId)(hg:o.guard=none)(hop:o.op=Op.call { callee:=.value (.func f),args:=#[x,y],argTypes:=#[t,t'] })(hx:a.eval x=u)(hy:a.eval y=v)(hf : Tryz.prog.funcs[f]?=some fn)(hname : (fn.name== "runtime.NumGoroutine")=false)(hb : fn.body=some code)(hc:Calls Tryz.prog f #[u,v] w R)(hR:∀e w',R e w'->∃z,e=.returned z∧K (a.put o.dst z) w'):
  if Region.wanted o (yielded ops a.tmps)=true then Oper.wp Tryz.prog o a w K Q else E:=by
 have hw:Region.wanted o (yielded ops a.tmps)=true:=by simp[Region.wanted,hg]
 rw[if_pos hw]
 have h1 : fn.name≠ "runtime.NumGoroutine" := by simpa using hname
 unfold Oper.wp
 have he:(execOp a.eval o).run Tryz.prog w=.ok (.enter f #[u,v]) w:=by
  have hev:a.eval (.func f)=.func (.func f) #[] #[]:=rfl
  simp[execOp,hop,resolve,invoke,hx,hy,hev,Deferred.ofValue,callFunc,hf,h1,hb]
 rw[he,Oper.upon_enter]
 refine hc.mono ?_
 intro e w' hr
 obtain⟨z,rfl,hk⟩:=hR e w' hr
 exact hk
theorem lE{B:Nat}{v:Value}{xs:L8}{w:World}{H:Nat}(hH:w.1.size=H)(hown:Has w B v xs)(c:UInt8)(hlen:xs.length+1<=140737488355328)(hB:B<=w.1.size){z:Int}{ops:Array Oper}{o:Oper}{a:Act}{K:Act->World->Prop}{Q:Exit->Act->World->Prop}{E:Prop}(s x:Operand)(hz:z=(c.toNat:Int))(ht:o.type=31)(hg:o.guard=none)(hop:o.op=Op.call { callee:=Callee.builtin Builtin.append,args:=#[s,x],argTypes:=#[31,31] })(hs:a.eval s=v)(hx:a.eval x=.slice (some ⟨H,0,none⟩) 1 1)(hK:∀q cap W ys,Hid (ys=xs++[c])->bB w B v W (.slice q ys.length cap) ys->K (a.put o.dst (.slice q ys.length cap)) W):
  if Region.wanted o (yielded ops a.tmps)=true then Oper.wp Tryz.prog o a (w.alloc (.cells #[.int .u8 z] 5)) K Q else E:=by
 have hw:Region.wanted o (yielded ops a.tmps)=true:=by simp[Region.wanted,hg]
 rw[if_pos hw]
 subst hH
 have hb:Below w.1.size w (w.alloc (.cells #[.int .u8 z] 5)):=vY
 obtain⟨q,cap,W,⟨hr⟩,hm,ha,-,hb3⟩:=ie B v xs [c] (some ⟨w.1.size,0,none⟩) 1 _ (hown.alloc _) (jC w z c hz) (by simp only[List.length_singleton];omega) (Nat.le_trans hB hb.size)
 unfold Oper.wp
 have hl1:[c].length=1:=rfl
 rw[hl1] at hr
 have he:(execOp a.eval o).run Tryz.prog (w.alloc (.cells #[.int .u8 z] 5))=.ok (.value (.slice q (xs++[c]).length cap)) W:=by
  simp only[execOp,hop,resolve,invoke,builtin]
  simp[hs,hx,ht,hr,Result.andThen]
 rw[he]
 exact hK q cap W (xs++[c]) (vQ rfl) (bB.from ⟨hm,ha,hb3⟩ hb hown)
theorem iV(x:Col)(w0 w:World)(u:AV)(v:Value)(xs:L8)(hu:dC w0 u x)(hwf:x.wf)(hn:x.name.size<=16)(hty:Ty.check 1 x.ty=0)(hdf:x.has=true->chk 1 x.dflt=0)(hb0:Below w0.1.size w0 w)(hv:Has w w0.1.size v xs)(hlen:xs.length<=90000):
    Calls Tryz.prog 95 #[v,.agg u] w fun e w'=>∃ys q cap,(ys=xs++Sch.cB x∨(1024<ys.length∧1024<(xs++Sch.cB x).length))∧ys.length<=xs.length+3000∧e=.returned (.slice q ys.length cap)∧bB w w0.1.size v w' (.slice q ys.length cap) ys:=by
  obtain⟨k,tp,tn,tc,vk,vi,vb,vt,vp,vn,vc,rfl,ht,hd⟩:=hu.out
  obtain⟨nm,ty,has,df⟩:=x
  obtain⟨wn,wty,wd⟩:=hwf
  dsimp only at ht hd hty hn wn wty wd hdf
  unfold aA
  have hBs:=hb0.size
  obtain⟨W0,hW0⟩:∃W0,W0=w.alloc (.cells #[.string nm,.int .i64 k,.slice tp tn tc,.bool has,.int .i64 vk,.int .i64 vi,.float .f64 vb,.string vt,.slice vp vn vc] 89):=⟨_,rfl⟩
  have HBx:Hid (Below w.1.size w W0):=by rw[hW0];exact vY
  have HBlk:Hid (W0.1[w.1.size]?=some (.cells #[.string nm,.int .i64 k,.slice tp tn tc,.bool has,.int .i64 vk,.int .i64 vi,.float .f64 vb,.string vt,.slice vp vn vc] 89 (0,0))):=by rw[hW0];exact ag w _
  have HW0:=vQ hW0
  have HV:=vQ hv
  have HB0:=vQ hb0
  -- whatever grows out of v's own block leaves the copy alone
  have HKeep:Hid (∀W v' l,bB W0 w0.1.size v W v' l->W.1[w.1.size]?=some (.cells #[.string nm,.int .i64 k,.slice tp tn tc,.bool has,.int .i64 vk,.int .i64 vi,.float .f64 vb,.string vt,.slice vp vn vc] 89 (0,0))∧Below w0.1.size w0 W):=fun W v' l hg=>by
    refine⟨?_,(hb0.trans (HBx.out.mono hBs)).trans (hg.low (HV.out.on HBx.out) (Nat.le_trans hBs HBx.out.size))⟩
    rw[hg.aside.block _ (by have:=aw HBlk.out;exact this) (fun hc=>by have:=(HV.out.lt _ hc).2;omega)]
    exact HBlk.out
  have HC1:=vQ (gj v xs nm w0.1.size W0 (hv.on HBx.out) (Nat.le_trans hBs HBx.out.size) (by omega) (by omega))
  have HC2:=vQ (fun w' v' l (hg:bB W0 w0.1.size v w' v' l) (hl:l.length+20<=1000000)=>lm ty 1 w0 w' _ v' l hty ht (HKeep.out w' v' l hg).2 hg.has hl)
  have HC3:=vQ (fun w' v' l (hb:Below w0.1.size w0 w') (hh:Has w' w0.1.size v' l) (hl:l.length<=100000) (h1:has=true)=>jW df 1 w0 w' _ v' l (hdf h1) wd hd hb hh hl)
  have hns:nm.data.toList.length=nm.size:=by rw[Array.length_toList];rfl
  have hpl:=Leb.put_length_le nm.size
  have htl:=py hty
  have HcB:Hid (Sch.cB ⟨nm,ty,has,df⟩=Leb.put nm.size++(nm.data.toList++(Sch.tyB ty++(if has then 1 else 0)::(if has then Sch.vB df else [])))):=rfl
  obtain⟨l1,hl1⟩:∃l,l=xs++(Leb.put nm.size++nm.data.toList):=⟨_,rfl⟩
  have hl1n:l1.length<=xs.length+26:=by rw[hl1,List.length_append,List.length_append];omega
  rw[<-hl1] at HC1
  unfold al at HC2
  unfold cells5 at HC3
  obtain⟨cb,hcb⟩:∃l,l=Sch.cB ⟨nm,ty,has,df⟩:=⟨_,rfl⟩
  rw[<-hcb] at HcB ⊢
  have HL1:=vQ hl1
  clear hW0 hu ht hd hty hdf hv hb0 hl1 hcb wn wty wd hns hpl
  go_enter Tryz.func95,Tryz.ntmps95
  go_wp2_with fail
  rw[<-HW0.out]
  clear HW0
  refine HC1.out.mono ?_
  rintro e w1 ⟨q1,cap1,rfl,hg1⟩
  have HG1:=vQ hg1
  obtain⟨hblk1,-⟩:=HKeep.out _ _ _ hg1
  have c1:w1.cell? ⟨w.1.size,1,none⟩=some (.int .i64 k):=aa hblk1 1
  have c2:w1.cell? ⟨w.1.size,2,none⟩=some (.slice tp tn tc):=aa hblk1 2
  obtain⟨l2,hl2⟩:∃l,l=l1++Sch.tyB ty:=⟨_,rfl⟩
  have HC2':=vQ (HC2.out w1 (.slice q1 l1.length cap1) l1 HG1.out (by omega))
  rw[<-hl2] at HC2'
  have hl2n:l2.length<=xs.length+31:=by rw[hl2,List.length_append];omega
  have HL2:=vQ hl2
  clear hg1 hblk1 HC1 HC2 hl2
  go_wp2_with fail
  refine HC2'.out.mono ?_
  rintro e w2 ⟨q2,cap2,rfl,hg2⟩
  have HG2:=vQ (HG1.out.trans hg2)
  obtain⟨hblk2,hbw2⟩:=HKeep.out _ _ _ HG2.out
  have c3:w2.cell? ⟨w.1.size,3,none⟩=some (.bool has):=aa hblk2 3
  have HBw2:=vQ hbw2
  have hB2:=hbw2.size
  have HH2:=vQ HG2.out.has
  have HGw:=vQ (HG2.out.from HBx.out HV.out)
  clear hg2 c1 c2 HC2' HG1 hbw2
  cases has with
  |false=>
    have HE:Hid (xs++cb=l2++[0]):=by
      show _=_
      rw[HcB.out,HL2.out,HL1.out]
      simp
    clear HC3 HcB HL1 HL2 HKeep hblk2
    go_wp2_with (first
      | (at_builtin;refine gH (B:=w0.1.size) rfl HH2.out 0 (by omega) hB2 (by rfl) rfl rfl rfl rfl rfl ?_
         intro q3 cap3 W ys HY hg3
         have HG3:=vQ (HGw.out.trans hg3)
         clear hg3))
    go_ret
    refine⟨ys,q3,cap3,.inl ?_,?_,rfl,HG3.out⟩
    · rw[HE.out,HY.out]
    · rw[HY.out,List.length_append,List.length_singleton];omega
  |true=>
    have c4:w2.cell? ⟨w.1.size,4,none⟩=some (.int .i64 vk):=aa hblk2 4
    have c5:w2.cell? ⟨w.1.size,5,none⟩=some (.int .i64 vi):=aa hblk2 5
    have c6:w2.cell? ⟨w.1.size,6,none⟩=some (.float .f64 vb):=aa hblk2 6
    have c7:w2.cell? ⟨w.1.size,7,none⟩=some (.string vt):=aa hblk2 7
    have c8:w2.cell? ⟨w.1.size,8,none⟩=some (.slice vp vn vc):=aa hblk2 8
    have hblkA:∀o,(w2.alloc o).1[w.1.size]?=some (.cells #[.string nm,.int .i64 k,.slice tp tn tc,.bool true,.int .i64 vk,.int .i64 vi,.float .f64 vb,.string vt,.slice vp vn vc] 89 (0,0)):=fun o=>(aD w2 o (aw hblk2)).trans hblk2
    have y4:∀o,(w2.alloc o).cell? ⟨w.1.size,4,none⟩=some (.int .i64 vk):=fun o=>aa (hblkA o) 4
    have y5:∀o,(w2.alloc o).cell? ⟨w.1.size,5,none⟩=some (.int .i64 vi):=fun o=>aa (hblkA o) 5
    have y6:∀o,(w2.alloc o).cell? ⟨w.1.size,6,none⟩=some (.float .f64 vb):=fun o=>aa (hblkA o) 6
    have y7:∀o,(w2.alloc o).cell? ⟨w.1.size,7,none⟩=some (.string vt):=fun o=>aa (hblkA o) 7
    have y8:∀o,(w2.alloc o).cell? ⟨w.1.size,8,none⟩=some (.slice vp vn vc):=fun o=>aa (hblkA o) 8
    clear hblkA
    have HE:Hid (xs++cb=l2++[1]++Sch.vB df):=by
      show _=_
      rw[HcB.out,HL2.out,HL1.out]
      simp
    obtain⟨full,hfull⟩:∃l,l=Sch.vB df:=⟨_,rfl⟩
    rw[<-hfull] at HE HC3
    clear HcB HL1 HL2 hfull
    go_wp2_with fail
    go_region_law (first
      | (refine lE (B:=w0.1.size) (xs:=l2) (v:=.slice q2 l2.length cap2) (w:=w2.drew) (H:=w2.1.size) (by rfl) HH2.out.drew 1 (by omega) hB2 (.tmp 19) (.tmp 20) (by rfl) (by rfl) (by rfl) (by rfl) (by rfl) (by rfl) ?_
         intro q3 cap3 W ys HY hg3
         have hg3':bB w2 w0.1.size (.slice q2 l2.length cap2) W (.slice q3 ys.length cap3) ys:=⟨hg3.has,⟨hg3.aside.os,hg3.aside.tape,hg3.aside.output,hg3.aside.size,hg3.aside.block⟩,hg3.fresh⟩
         have HG3:=vQ (HG2.out.trans hg3')
         have HGw3:=vQ (HGw.out.trans hg3')
         have hk3:=HKeep.out _ _ _ HG3.out
         have d4:W.cell? ⟨w.1.size,4,none⟩=some (.int .i64 vk):=aa hk3.1 4
         have d5:W.cell? ⟨w.1.size,5,none⟩=some (.int .i64 vi):=aa hk3.1 5
         have d6:W.cell? ⟨w.1.size,6,none⟩=some (.float .f64 vb):=aa hk3.1 6
         have d7:W.cell? ⟨w.1.size,7,none⟩=some (.string vt):=aa hk3.1 7
         have d8:W.cell? ⟨w.1.size,8,none⟩=some (.slice vp vn vc):=aa hk3.1 8
         have HBw3:=vQ hk3.2
         have hyl:ys.length<=xs.length+32:=by(rw[HY.out,List.length_append,List.length_singleton];omega)
         clear hg3 hg3' hk3)
      | (refine lI (.tmp 21) (.tmp 23) 31 87 (by rfl) (by rfl) (by rfl) (by rfl) Tryz.func129 (by kernel_rfl) (by rfl) (HC3.out W (.slice q3 ys.length cap3) ys HBw3.out HG3.out.has (by omega) (by first | rfl | trivial)) ?_
         rintro e w4 ⟨zs,q4,cap4,hpv,rfl,hg4⟩
         refine⟨_,rfl,?_⟩
         have HG4:=vQ (HGw3.out.trans hg4)
         have HPv:=vQ hpv
         clear hg4 hpv))
    all_goals
      go_wp2
      go_ret
      refine⟨zs,q4,cap4,?_,?_,rfl,HG4.out⟩
      · rw[HE.out,<-HY.out];exact HPv.out.eq
      · have:=HPv.out.len;omega
end
section
open Go.RowKit
attribute [local go_sem] ai
def jJ(s:List Col):L8:=if Sch.err s=0 then Sch.bytes s else []
theorem oU(s:List Col):Sch.err s=if gf s≠0 then gf s else if 1024<(Sch.bytes s).length then 2 else 0:=by
 unfold Sch.err gf
 by_cases h0:s.length=0
 ·rw[if_pos h0,if_pos h0,if_pos (by decide)]
 ·rw[if_neg h0,if_neg h0]
  by_cases h1:16<s.length
  ·rw[if_pos h1,if_pos h1,if_pos (by decide)]
  ·rw[if_neg h1,if_neg h1]
theorem nA(s:List Col)(p:OA)(c:Nat)(w:World)(hs:s.length*120<=140737488351232)(hx:bg w p s)(hwf:∀x∈s,x.wf):
  Calls Tryz.prog 68 #[.agg #[.slice p s.length c]] w fun e w'=>∃q cap,e=.returned (.tuple #[.slice q (jJ s).length cap,.int .i64 (Sch.err s:Nat)])∧At w' q (jJ s)∧(jJ s).length<=cap∧Below w.1.size w w':=by
 obtain⟨W0,hW0⟩:∃W0,W0=w.alloc (.cells #[.slice p s.length c] 30):=⟨_,rfl⟩
 have HB0:Hid (Below w.1.size w W0):=by rw[hW0];exact vY
 have HY0:Hid (W0.cell? ⟨w.1.size,0,none⟩=some (.slice p s.length c)):=by show _=_;rw[hW0];simp
 have HW0:=vQ hW0
 have HX:=vQ hx
 have HWf:=vQ hwf
 have HE:=vQ (oU s)
 have HC:=vQ (iQ s p c W0 (hx.on HB0.out) hwf)
 have HEnc:Hid (jJ s=if Sch.err s=0 then Sch.bytes s else []):=rfl
 have HK0:Hid (gf s=0->s.length<=16∧Sch.colsErr [] s=0):=fun h=>by
  unfold gf at h
  split at h
  ·omega
  ·split at h
   ·omega
   ·exact⟨by omega,h⟩
 obtain⟨L,hL⟩:∃L,L=jJ s:=⟨_,rfl⟩
 obtain⟨R,hR⟩:∃R,R=Sch.err s:=⟨_,rfl⟩
 rw[<-hL] at HEnc ⊢
 rw[<-hR] at HE HEnc ⊢
 obtain⟨ck,hck⟩:∃n,n=gf s:=⟨_,rfl⟩
 rw[<-hck] at HC HE HK0
 clear hW0 hx hwf hL hR hck
 go_enter Tryz.func68,Tryz.ntmps68
 go_wp2_with fail
 rw[<-HW0.out]
 clear HW0
 refine HC.out.mono ?_
 rintro e w1 ⟨rfl,hb1⟩
 have y1:=ab hb1 HY0.out
 have HB1:=vQ (HB0.out.trans (hb1.mono HB0.out.size))
 clear hb1 HC HY0
 by_cases h0:¬ck=0
 ·have g0:((ck:Int) != 0)=true:=ca (by omega)
  have HR2:Hid (R=ck):=by show _=_;rw[HE.out,if_pos h0]
  have HL2:Hid (L=[]):=by show _=_;rw[HEnc.out,HR2.out,if_neg h0]
  clear h0 HE HEnc HK0
  go_wp2
  go_ret2
  rw[HL2.out,HR2.out]
  exact⟨none,0,rfl,.inl rfl,vX,HB1.out⟩
 replace h0:ck=0:=Classical.not_not.1 h0
 have g0:((ck:Int) != 0)=false:=cq (by omega)
 obtain⟨hs16,hce⟩:=HK0.out h0
 have HR2:Hid (R=if 1024<(Sch.bytes s).length then 2 else 0):=by show _=_;rw[HE.out,if_neg (by omega)]
 have HCe:=vQ hce
 have HP:=vQ (fe s.length (by omega))
 have hpl:=Leb.put_length_le s.length
 have HBy:Hid (Sch.bytes s=Leb.put s.length++(s.map Sch.cB).flatten):=rfl
 obtain⟨l0,hl0⟩:∃l0,l0=Leb.put s.length:=⟨_,rfl⟩
 rw[<-hl0] at HP hpl HBy
 obtain⟨by0,hby⟩:∃l,l=Sch.bytes s:=⟨_,rfl⟩
 rw[<-hby] at HBy HR2 HEnc
 have hs16':(s.length:Int)<=16:=by omega
 clear h0 HE HK0 hce hl0 hby
 go_wp2_with fail
 refine(HP.out _).mono ?_
 rintro e w2 ⟨g,cap0,rfl,hm,hb2⟩
 have y2:=ab hb2 y1
 have HH2:=vQ hm.has
 have HB2:=vQ hb2
 clear hm hb2 HP y1
 have HZ0:Hid (l0=l0++((s.take 0).map Sch.cB).flatten):=by show _=_;simp
 go_wp2_with fail
 go_loopw [5,22] (fun v5 v22 wr=>∃(j:Nat) (zs:L8) (q:OA) (cap:Nat),j<=s.length∧v22=.int .i64 j∧v5=.slice q zs.length cap∧zs.length<=10+j*3000∧Hid ((zs=l0++((s.take j).map Sch.cB).flatten∨(1024<zs.length∧1024<(l0++((s.take j).map Sch.cB).flatten).length))∧Has wr w1.1.size (.slice q zs.length cap) zs∧Below w1.1.size w1 wr)) (fun _ v22 _=>s.length-(intOf v22).toNat)
 case atStart=>exact⟨0,l0,some ⟨g,0,none⟩,cap0,by omega,rfl,rfl,by omega,.inl HZ0.out,HH2.out,HB2.out⟩
 case round=>
  obtain⟨j,zs,q,cap,hj,rfl,rfl,hzl,HL⟩:=hrel
  by_cases hlt:j<s.length
  ·have hbr:Below w.1.size w wr:=HB1.out.trans (HL.out.2.2.mono HB1.out.size)
   obtain⟨bx,ox,k,tp,tn,tc,vk,vi,vb,vt,vp,vn,vc,rfl,_,h9,htx,hvx⟩:=(HX.out.on HB1.out).at j hlt
   obtain⟨a0,a1,a2,a3,a4,a5,a6,a7,a8⟩:=h9.on HL.out.2.2
   have hj1:(j:Int)<(s.length:Int):=by omega
   obtain⟨l',hce⟩:=Sch.colsErr_mem s [] HCe.out s[j] (List.getElem_mem hlt)
   obtain⟨o1,-,o3,-,o5⟩:=Sch.col_open hce
   have hnm:=(Sch.name_size o1).2
   obtain⟨wa,hwa⟩:∃wa,wa=wr.alloc (.cells #[.string s[j].name,.int .i64 k,.slice tp tn tc,.bool s[j].has,.int .i64 vk,.int .i64 vi,.float .f64 vb,.string vt,.slice vp vn vc] 89):=⟨_,rfl⟩
   have HBa:Hid (Below wr.1.size wr wa):=by rw[hwa];exact vY
   have hsz:=HL.out.2.2.size
   have hb1a:Below w1.1.size w1 wa:=HL.out.2.2.trans (HBa.out.mono hsz)
   have HB1a:=vQ hb1a
   have HCol:=vQ (iV s[j] w1 wa _ (.slice q zs.length cap) zs ⟨k,tp,tn,tc,vk,vi,vb,vt,vp,vn,vc,rfl,htx,hvx⟩ (HWf.out _ (List.getElem_mem hlt)) hnm o3 (fun h=>(o5 h).1) hb1a (HL.out.2.1.on HBa.out) (by omega))
   have HHa:=vQ (HL.out.2.1.on HBa.out)
   have HTk:=vQ (Sch.flatten_take Sch.cB s j hlt)
   have HTl:=vQ (Sch.flatten_take_le Sch.cB s j)
   have HOld:=vQ HL.out.1
   unfold aA at HCol
   obtain⟨cb,hcb⟩:∃l,l=Sch.cB s[j]:=⟨_,rfl⟩
   rw[<-hcb] at HCol HTk
   generalize s[j].name=nm at *
   generalize s[j].has=hs0 at *
   have HWa:=vQ hwa
   clear h9 htx hvx hce o1 o3 o5 hnm hwa hb1a HL hbr hcb
   go_wp2_with fail
   rw[<-HWa.out]
   clear HWa a0 a1 a2 a3 a4 a5 a6 a7 a8
   refine HCol.out.mono ?_
   rintro e w3 ⟨ys,q3,cap3,hor,hyl,rfl,hg3⟩
   have HN:Hid ((ys=l0++((s.take (j+1)).map Sch.cB).flatten∨(1024<ys.length∧1024<(l0++((s.take (j+1)).map Sch.cB).flatten).length))∧Has w3 w1.1.size (.slice q3 ys.length cap3) ys∧Below w1.1.size w1 w3):=by
    refine⟨?_,hg3.has,HB1a.out.trans (hg3.low HHa.out HB1a.out.size)⟩
    have hge:∀(A:L8),(A++cb).length=A.length+cb.length:=fun A=>List.length_append
    rw[HTk.out,<-List.append_assoc]
    rcases HOld.out with h1 | h1
    ·rw[<-h1];exact hor
    ·refine .inr ⟨?_,?_⟩
     ·rcases hor with h2 | h2
      ·rw[h2,List.length_append];omega
      ·exact h2.1
     ·rw[List.length_append];omega
   have hys:ys.length<=10+(j+1)*3000:=by omega
   clear hor hg3 hyl HCol HHa HTk HTl HOld
   go_wp2
   go_roundw
   case rel=>exact⟨j+1,ys,q3,cap3,by omega,by go_num,rfl,hys,HN.out⟩
   case measure=>simp[intOf];omega
  ·have hjn:¬(j:Int)<(s.length:Int):=by omega
   have HF:Hid (Below w.1.size w wr):=HB1.out.trans (HL.out.2.2.mono HB1.out.size)
   have hor:(zs=by0∨(1024<zs.length∧1024<by0.length)):=by
    have h1:=HL.out.1
    rw[List.take_of_length_le (by omega),<-HBy.out] at h1
    exact h1
   have HH:=vQ HL.out.2.1
   clear HL
   by_cases hbig:1024<zs.length
   ·have gb:(1024:Int)<(zs.length:Int):=by omega
    have hby1:1024<by0.length:=by
     rcases hor with h1 | h1
     ·rw[<-h1];exact hbig
     ·exact h1.2
    have HR3:Hid (R=2):=by show _=_;rw[HR2.out,if_pos hby1]
    have HL3:Hid (L=[]):=by show _=_;rw[HEnc.out,HR3.out,if_neg (by decide)]
    clear hor hbig hby1 HR2 HEnc
    go_wp2
    go_ret2
    rw[HL3.out,HR3.out]
    exact⟨none,0,rfl,.inl rfl,vX,HF.out⟩
   ·have gb:¬(1024:Int)<(zs.length:Int):=by omega
    have hzb:zs=by0:=by
     rcases hor with h1 | h1
     ·exact h1
     ·exact absurd h1.1 hbig
    have HR3:Hid (R=0):=by show _=_;rw[HR2.out,if_neg (by rw[<-hzb];exact hbig)]
    have HL3:Hid (L=zs):=by show _=_;rw[HEnc.out,HR3.out,if_pos rfl,hzb]
    obtain⟨q',cap',he,hat,hcap⟩:=HH.out.at
    injection he with e1 _ e2
    subst e1 e2
    have HAt:=vQ hat
    clear hor hbig hzb HR2 HEnc hat
    go_wp2
    go_ret2
    rw[HL3.out,HR3.out]
    exact⟨_,_,rfl,HAt.out,hcap,HF.out⟩
end
end Go.Proofs.YtlgfdgdlaahpfaaGreatDoor
