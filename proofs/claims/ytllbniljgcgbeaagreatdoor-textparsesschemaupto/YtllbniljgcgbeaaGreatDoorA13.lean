import Derived.Test.YtllbniljgcgbeaaGreatDoorA11
import Derived.Test.YtllbniljgcgbeaaGreatDoorA18
import Derived.Test.YtllbniljgcgbeaaGreatDoorB12
set_option maxRecDepth 100000
set_option maxHeartbeats 4000000
namespace Go.Proofs.YtllbniljgcgbeaaGreatDoor
section
open Go.RowKit
structure Grx(w:World)(B:Nat)(w':World)(v':Value)(l:L8):Prop where
 has:Has w' B v' l
 os:w'.os=w.os
 tape:w'.tape=w.tape
 output:w'.output=w.output
 size:w.1.size<=w'.1.size
 keep:∀k o,w.1[k]?=some o->(k<B∨∀c fz,o≠.cells c 5 fz)->w'.1[k]?=some o
section
variable {w w1 w2:World} {B:Nat} {v v1 v2:Value} {l l1 l2:L8}
theorem Grx.new(h:Has w B v l)(hb:Below w.1.size w w1):Grx w B w1 v l:=⟨h.on hb,hb.os,hb.tape,hb.output,hb.size,fun k _ ho _=>(hb.block k (ae ho)).trans ho⟩
theorem Grx.refl(h:Has w B v l):Grx w B w v l:=Grx.new h tZ
theorem Grx.trans(h:Grx w B w1 v1 l1)(k:Grx w1 B w2 v2 l2):Grx w B w2 v2 l2:=⟨k.has,k.os.trans h.os,k.tape.trans h.tape,k.output.trans h.output,Nat.le_trans h.size k.size,fun i o ho hc=>k.keep i o (h.keep i o ho hc) hc⟩
theorem Grx.of(h:aQ w B v w1 v1 l1)(hv:Has w B v l):Grx w B w1 v1 l1:=by
 refine⟨h.has,h.aside.os,h.aside.tape,h.aside.output,h.aside.size,fun k o ho hc=>(h.aside.block k (ae ho) (fun he=>?_)).trans ho⟩
 have h1:=(hv.lt k he).1
 rcases hc with hc | hc
 ·omega
 ·rcases hv.2 with ⟨rfl,_⟩ | ⟨g,cap,cur,rfl,_,hb,_⟩
  ·cases he
  ·injection he with he
   subst he
   rw[hb] at ho
   injection ho with ho
   exact hc _ _ ho.symm
theorem Grx.below(h:Grx w B w1 v1 l1)(hB:B<=w.1.size):Below B w w1:=⟨h.os,h.tape,h.output,h.size,fun k hk=>by
 have hl:k<w.1.size:=by omega
 have h1:=Array.getElem?_eq_getElem hl
 rw[h1]
 exact h.keep k _ h1 (.inl hk)⟩
theorem Grx.on(h:Grx w B w1 v1 l1)(hb:Below w1.1.size w1 w2):Grx w B w2 v1 l1:=h.trans (Grx.new h.has hb)
theorem Grx.blk{C:AV}{T:TypeId}{fr:Nat×Nat}(h:Grx w B w1 v1 l1){k:Nat}(hk:w.1[k]?=some (.cells C T fr))(hT:T≠5):w1.1[k]?=some (.cells C T fr):=h.keep k _ hk (.inr fun c fz hc=>by
 injection hc with h1 h2
 exact hT h2)
end
def bG(w:World)(B:Nat)(l:L8)(e:Ending)(w':World):Prop:=∃q cap,e=.returned (.slice q l.length cap)∧Grx w B w' (.slice q l.length cap) l
theorem bG.open{w w':World}{B:Nat}{l:L8}{e:Ending}(h:bG w B l e w'):∃q cap,e=.returned (.slice q l.length cap)∧Grx w B w' (.slice q l.length cap) l:=h
def fR(ts:List Ty):Tx.Bs:=(ts.map fun y=>40::(Tx.ty y++[41])).flatten
theorem ms{k:Int}{ts:List Ty}(h:ts.length<=1):Tx.ty (.mk k ts)=Tx.word k++fR ts:=by
 match ts,h with
 | [],_=>rw[Tx.ty_leaf];simp[fR]
 | [y],_=>rw[Tx.ty_one];simp[fR]
theorem mR(ts:List Ty)(j:Nat)(h:j<ts.length):fR (ts.take (j+1))=fR (ts.take j)++40::(Tx.ty ts[j]++[41]):=by
 unfold fR
 rw[List.take_succ_eq_append_getElem h,List.map_append,List.flatten_append]
 simp
theorem k9:∀(x:Ty) (d:Nat) (w0 w:World) (u:AV) (v:Value) (xs:L8),Ty.check d x=0->Hv w0->aD w0 u x->Below w0.1.size w0 w->Has w w0.1.size v xs->xs.length<=140000000000000+7*d->Calls Tryz.prog 70 #[v,.agg u] w (bG w w0.1.size (xs++Tx.ty x)):=by
  intro x
  refine Ty.ind (P:=fun x=>∀(d:Nat) (w0 w:World) (u:AV) (v:Value) (xs:L8),Ty.check d x=0->Hv w0->aD w0 u x->Below w0.1.size w0 w->Has w w0.1.size v xs->xs.length<=140000000000000+7*d->Calls Tryz.prog 70 #[v,.agg u] w (bG w w0.1.size (xs++Tx.ty x))) ?_ x
  rintro k ts ih d w0 w u v xs hd hv0 hx hb0 hv hlen
  obtain⟨p,c,rfl,hxl,hxc,hxi⟩:=hx.open
  unfold al
  have hBs:=hb0.size
  obtain⟨hd4,hk,htt⟩:=Sch.ty_open hd
  obtain⟨m,rfl⟩:∃m:Nat,k=(m:Nat):=⟨k.toNat,by omega⟩
  have m0:(0:Int)<=(m:Int):=by omega
  have m1:(m:Int)<8:=by omega
  have m2:m<8:=by omega
  have hty:Hid (Tx.ty (.mk (m:Int) ts)=Tx.word (m:Int)++fR ts∧ts.length<=1∧∀y∈ts,Ty.check (d+1) y=0):=by
    show _∧_∧_
    rcases htt with ⟨h67,rfl⟩ | ⟨h67,y,rfl,hy⟩
    · exact⟨ms (by simp),by simp,fun y hy=>by cases hy⟩
    · refine⟨ms (by simp),by simp,fun z hz=>?_⟩
      rw[List.mem_singleton] at hz
      rw[hz];exact hy
  have hwl:=ka (m:Int)
  obtain⟨wd,hwd⟩:∃wd,wd=Tx.word (m:Int):=⟨_,rfl⟩
  rw[<-hwd] at hty hwl
  obtain⟨n,hn⟩:∃n,n=ts.length:=⟨_,rfl⟩
  rw[<-hn]
  obtain⟨W0,hW0⟩:∃W0,W0=w.alloc (.cells #[.int .i64 (m:Nat),.slice p n c] 32):=⟨_,rfl⟩
  have hbW:Below w.1.size w W0:=by rw[hW0];exact tY
  have HBk:Hid (W0.1[w.1.size]?=some (.cells #[.int .i64 (m:Nat),.slice p n c] 32 (0,0))):=by rw[hW0];exact aj w _
  have hvW:Hv W0:=(hv0.on hb0 hv0.size).on hbW (Nat.le_trans hv0.size hb0.size)
  have kc:W0.cell? ⟨0,m,none⟩=some (.string ⟨wd.toArray⟩):=by
    rw[hvW.kwc m,rE m2,hwd]
    rfl
  have kc2:w.cell? ⟨0,m,none⟩=some (.string ⟨wd.toArray⟩):=by
    rw[(hv0.on hb0 hv0.size).kwc m,rE m2,hwd]
    rfl
  have hglt:0<w.1.size:=by have:=(hv0.on hb0 hv0.size).size;omega
  have HVW:=tQ (hv.on hbW)
  have HV:=tQ hv
  have HG0:=tQ (Grx.new hv hbW)
  have HB0:=tQ hb0
  have HW0:=tQ hW0
  have HX:Hid (∀j (hj:j<ts.length),∃u',aD w0 u' ts[j]∧dE w0 p j u'):=hxi
  have HIH:=tQ ih
  have HN:=tQ hn
  have HH0:=tQ hv0
  have hBW:w0.1.size<=W0.1.size:=Nat.le_trans hBs hbW.size
  have hts:(ByteArray.mk wd.toArray).size=wd.length:=by show wd.toArray.size=_;simp
  have hl0:xs.length+(ByteArray.mk wd.toArray).size<=140737488355328:=by omega
  have hn1:n<=1:=by rw[hn];exact hty.out.2.1
  have hnI:(n:Int)<=1:=by omega
  clear ih hxi hd hx hb0 hv hv0 hbW hvW hW0 hwd htt hn hts
  go_enter Tryz.func70,Tryz.ntmps70
  go_wp2_with (first
    | (at_builtin;rw[<-HW0.out];refine aI (B:=w0.1.size) (t:=⟨wd.toArray⟩) HVW.out hl0 hBW rfl rfl rfl rfl rfl ?_;intro ys q4 cap4 W HY hH4 ha4 hb4
       have HG1:Hid (Grx w w0.1.size W (.slice q4 ys.length cap4) ys):=HG0.out.trans (Grx.of ⟨hH4,ha4,hb4⟩ HVW.out)
       have c1:W.cell? ⟨w.1.size,1,none⟩=some (.slice p n c):=ab ((Grx.of ⟨hH4,ha4,hb4⟩ HVW.out).blk HBk.out (by decide)) 1
       clear hH4 ha4 hb4)
    |fail)
  have HY0:Hid (ys=xs++(wd++fR (ts.take 0))):=by show _=_;rw[HY.out];simp[fR]
  clear HY c1 HVW HG0 kc kc2 HW0 HBk hBW hl0
  go_loopw [0,16] (fun v0 v16 wr=>∃(j:Nat) (zs:L8) (q:OA) (cap:Nat),j<=n∧v16=.int .i64 j∧v0=.slice q zs.length cap∧Hid (zs=xs++(wd++fR (ts.take j))∧Grx w w0.1.size wr (.slice q zs.length cap) zs)) (fun _ v16 _=>n-(intOf v16).toNat)
  case atStart=>exact⟨0,ys,q4,cap4,by omega,rfl,rfl,HY0.out,HG1.out⟩
  case round=>
    obtain⟨j,zs,q,cap,hj,rfl,rfl,HL⟩:=hrel
    have hbr:Below w0.1.size w0 wr:=HB0.out.trans (HL.out.2.below hBs)
    by_cases hlt:j<n
    · have hltT:j<ts.length:=by have:=HN.out;omega
      obtain⟨ux,hvx,hix⟩:=HX.out j hltT
      obtain⟨bx,ox,kx,qx,nx,cx,rfl,_,rfl,a0,a1⟩:=(hix.on hbr).lies
      have hj1:(j:Int)<(n:Int):=by omega
      have hj0:j=0:=by omega
      have hz1:zs.length=xs.length+wd.length:=by rw[HL.out.1,hj0];simp[fR]
      have hzl:zs.length<=140000000000000+7*d+5:=by omega
      obtain⟨wa,hwa⟩:∃wa,wa=wr.alloc (.cells #[.int .i64 kx,.slice qx nx cx] 32):=⟨_,rfl⟩
      have hba:Below wr.1.size wr wa:=by rw[hwa];exact tY
      have hblk:wa.1[wr.1.size]?=some (.cells #[.int .i64 kx,.slice qx nx cx] 32 (0,0)):=by rw[hwa];exact aj wr _
      have HBlk:=tQ hblk
      have HHa:=tQ (HL.out.2.has.on hba)
      have HGa:=tQ (HL.out.2.on hba)
      have hBa:w0.1.size<=wa.1.size:=Nat.le_trans hbr.size hba.size
      have c0:wa.cell? ⟨wr.1.size,0,none⟩=some (.int .i64 kx):=ab hblk 0
      have c1:wa.cell? ⟨wr.1.size,1,none⟩=some (.slice qx nx cx):=ab hblk 1
      have y0:∀o,(wa.alloc o).cell? ⟨wr.1.size,0,none⟩=some (.int .i64 kx):=fun o=>ab ((ao wa o (ae hblk)).trans hblk) 0
      have y1:∀o,(wa.alloc o).cell? ⟨wr.1.size,1,none⟩=some (.slice qx nx cx):=fun o=>ab ((ao wa o (ae hblk)).trans hblk) 1
      have HC:Hid (∀w' v' l,Below w0.1.size w0 w'->Has w' w0.1.size v' l->l.length<=140000000000000+7*(d+1)->Calls Tryz.prog 70 #[v',.agg #[.int .i64 kx,.slice qx nx cx]] w' (bG w' w0.1.size (l++Tx.ty (ts[j]'hltT)))):=fun w' v' l h1 h2 h3=>HIH.out _ (List.getElem_mem hltT) (d+1) w0 w' _ v' l (hty.out.2.2 _ (List.getElem_mem hltT)) HH0.out hvx h1 h2 h3
      have hty7:=oC (ts[j]'hltT) (d+1) (hty.out.2.2 _ (List.getElem_mem hltT))
      have HZ:Hid (zs++[40]++Tx.ty (ts[j]'hltT)++[41]=xs++(wd++fR (ts.take (j+1)))):=by
        show _=_
        rw[HL.out.1,mR ts j hltT]
        simp
      obtain⟨tt,htt⟩:∃tt,tt=Tx.ty (ts[j]'hltT):=⟨_,rfl⟩
      rw[<-htt] at HC HZ hty7
      have HWa:=tQ hwa
      have HBr:=tQ hbr
      clear hvx hix hbr HL hwa hj0 hz1 hba hblk htt
      go_wp2_with fail
      rw[<-HWa.out]
      clear HWa a0 a1
      go_region_law (first
        | (refine bf (B:=w0.1.size) (xs:=zs) (v:=.slice q zs.length cap) (w:=wa.drew) (H:=wa.1.size) (by rfl) HHa.out.drew 40 (by omega) hBa (.tmp 20) (.tmp 21) (by rfl) (by rfl) (by rfl) (by rfl) (by rfl) (by rfl) ?_
           intro q3 cap3 W5 ys5 HY5 hg3
           have hg3':aQ wa w0.1.size (.slice q zs.length cap) W5 (.slice q3 ys5.length cap3) ys5:=⟨hg3.has,⟨hg3.aside.os,hg3.aside.tape,hg3.aside.output,hg3.aside.size,hg3.aside.block⟩,hg3.fresh⟩
           have hgx:=Grx.of hg3' HHa.out
           have HG3:=tQ (HGa.out.trans hgx)
           have hk3:=hgx.blk HBlk.out (by decide)
           have d0:W5.cell? ⟨wr.1.size,0,none⟩=some (.int .i64 kx):=ab hk3 0
           have d1:W5.cell? ⟨wr.1.size,1,none⟩=some (.slice qx nx cx):=ab hk3 1
           have HBw3:=tQ (HB0.out.trans (HG3.out.below hBs))
           have hyl:ys5.length<=140000000000000+7*d+6:=by(rw[HY5.out,List.length_append,List.length_singleton];omega)
           clear hg3 hg3' hk3 hgx)
        | (refine aZ (.tmp 22) (.tmp 23) 79 32 (by rfl) (by rfl) (by rfl) (by rfl) Tryz.func70 (by kernel_rfl) (by rfl) (HC.out W5 (.slice q3 ys5.length cap3) ys5 HBw3.out HG3.out.has (by omega)) ?_
           intro e w4 hh
           obtain⟨q6,cap6,he6,hg6⟩:=hh.open
           refine⟨_,he6,?_⟩
           have HG6:=tQ (HG3.out.trans hg6)
           obtain⟨l6,hl6⟩:∃l6,l6=ys5++tt:=⟨_,rfl⟩
           rw[<-hl6] at HG6 ⊢
           have HL6:=tQ hl6
           have hl6n:l6.length<=140000000000100:=by(rw[hl6,List.length_append];omega)
           clear hh hg6 he6 hl6))
      all_goals
        have hB6:w0.1.size<=w4.1.size:=Nat.le_trans hBs HG6.out.size
        have HH6:=tQ HG6.out.has
        clear d0 d1 y0 y1 c0 c1
        go_wp2_with (first
          | (at_builtin;refine bo rfl HH6.out 41 (by omega) hB6 rfl rfl rfl rfl rfl rfl ?_
             intro q7 cap7 W7 zs7 HZ7 hg7
             have HG7:=tQ (HG6.out.trans (Grx.of hg7 HH6.out))
             clear hg7)
          |fail)
        go_roundw
        case rel=>exact⟨j+1,zs7,q7,cap7,by omega,by go_num,rfl,by rw[HZ7.out,HL6.out,HY5.out];exact HZ.out,HG7.out⟩
        case measure=>simp[intOf];omega
    · have hjn:¬(j:Int)<(n:Int):=by omega
      have HE:Hid (xs++Tx.ty (.mk (m:Int) ts)=zs):=by
        show _=_
        rw[HL.out.1,hty.out.1,List.take_of_length_le (by have:=HN.out;omega)]
      have HG:=tQ HL.out.2
      clear HL hbr
      go_wp2
      go_ret
      rw[HE.out]
      exact⟨q,cap,rfl,HG.out⟩
end
section
open Go.RowKit
theorem px(w:World)(cs:L8)(C:AV)(hC:C=(cellsOf cs).toArray)(hl:cs.length<=1000):At (w.alloc (.cells C 5)) (some ⟨w.1.size,0,none⟩) cs:=by
 obtain⟨p,cc,he,hat,-⟩:=(eZ (B:=0) (w:=w) cs (C:=C) hC (Nat.zero_le _) (by omega)).at
 injection he with he
 rw[he];exact hat
theorem ql{B:Nat}{v:Value}{xs:L8}{w:World}{H n:Nat}(hH:w.1.size=H)(hown:Has w B v xs)(cs:L8){C:AV}(hC:C=(cellsOf cs).toArray)(hn:cs.length=n)(hn2:n<=1000)(hlen:xs.length+n<=140737488355328)(hB:B<=w.1.size){ops:Array Oper}{rest:List Oper}{o:Oper}{a:Act}{Q:Exit->Act->World->Prop}{s x:Operand}(ht:o.type=79)(hg:o.guard=none)(hop:o.op=Op.call { callee:=Callee.builtin Builtin.append,args:=#[s,x],argTypes:=#[79,79] })(hs:a.eval s=v)(hx:a.eval x=.slice (some ⟨H,0,none⟩) n n)(hK:∀q cap W ys,Hid (ys=xs++cs)->aQ w B v W (.slice q ys.length cap) ys->wpList Tryz.prog ops Q rest (a.put o.dst (.slice q ys.length cap)) W):
  wpList Tryz.prog ops Q (o::rest) a (w.alloc (.cells C 5)):=by
 subst hH
 subst hn
 have hb:Below w.1.size w (w.alloc (.cells C 5)):=tY
 refine aJ (hown.alloc _) (px w cs C hC hn2) hlen (Nat.le_trans hB hb.size) ht hg hop hs hx ?_
 intro ys q cap W hy h1 h2 h3
 exact hK q cap W ys hy (aQ.from ⟨h1,h2,h3⟩ hb hown)
theorem mV{B:Nat}{v:Value}{xs:L8}{w:World}{H n:Nat}(hH:w.1.size=H)(hown:Has w B v xs)(cs:L8){C:AV}(hC:C=(cellsOf cs).toArray)(hn:cs.length=n)(hn2:n<=1000)(hlen:xs.length+n<=140737488355328)(hB:B<=w.1.size){ops:Array Oper}{o:Oper}{a:Act}{K:Act->World->Prop}{Q:Exit->Act->World->Prop}{E:Prop}(s x:Operand)(ht:o.type=79)(hg:o.guard=none)(hop:o.op=Op.call { callee:=Callee.builtin Builtin.append,args:=#[s,x],argTypes:=#[79,79] })(hs:a.eval s=v)(hx:a.eval x=.slice (some ⟨H,0,none⟩) n n)(hK:∀q cap W ys,Hid (ys=xs++cs)->aQ w B v W (.slice q ys.length cap) ys->K (a.put o.dst (.slice q ys.length cap)) W):
  if Region.wanted o (yielded ops a.tmps)=true then Oper.wp Tryz.prog o a (w.alloc (.cells C 5)) K Q else E:=by
 have hw:Region.wanted o (yielded ops a.tmps)=true:=by simp[Region.wanted,hg]
 rw[if_pos hw]
 subst hH
 subst hn
 have hb:Below w.1.size w (w.alloc (.cells C 5)):=tY
 obtain⟨q,cap,W,⟨hr⟩,hm,ha,-,hb3⟩:=eU B v xs cs (some ⟨w.1.size,0,none⟩) cs.length _ (hown.alloc _) (px w cs C hC hn2) hlen (Nat.le_trans hB hb.size)
 unfold Oper.wp
 have he:(execOp a.eval o).run Tryz.prog (w.alloc (.cells C 5))=.ok (.value (.slice q (xs++cs).length cap)) W:=by
  simp only[execOp,hop,resolve,invoke,builtin]
  simp[hs,hx,ht,hr,Result.andThen]
 rw[he]
 exact hK q cap W (xs++cs) (tQ rfl) (aQ.from ⟨hm,ha,hb3⟩ hb hown)
theorem io(b:Bool)(B:Nat)(w:World)(v:Value)(xs:L8)(hv:Has w B v xs)(hB:B<=w.1.size)(hl:xs.length<=140000000000000):Calls Tryz.prog 112 #[v,.bool b] w (bG w B (xs++if b then [116,114,117,101] else [102,97,108,115,101])):=by
  have HV:=tQ hv
  have t4:(ByteArray.mk #[116,114,117,101]).size=4:=rfl
  have t5:(ByteArray.mk #[102,97,108,115,101]).size=5:=rfl
  clear hv
  cases b with
  |true=>
    go_enter Tryz.func112,Tryz.ntmps112
    go_wp2_with (first
      | (at_builtin;refine aI (B:=B) (t:=⟨#[116,114,117,101]⟩) HV.out (by rw[show(ByteArray.mk #[116,114,117,101]).size=4 from rfl];omega) hB rfl rfl rfl rfl rfl ?_;intro ys q4 cap4 W HY hH4 ha4 hb4
         have HG1:=tQ (Grx.of ⟨hH4,ha4,hb4⟩ HV.out)
         clear hH4 ha4 hb4)
      |fail)
    go_ret
    rw[<-HY.out]
    exact⟨q4,cap4,rfl,HG1.out⟩
  |false=>
    go_enter Tryz.func112,Tryz.ntmps112
    go_wp2_with (first
      | (at_builtin;refine aI (B:=B) (t:=⟨#[102,97,108,115,101]⟩) HV.out (by rw[show(ByteArray.mk #[102,97,108,115,101]).size=5 from rfl];omega) hB rfl rfl rfl rfl rfl ?_;intro ys q4 cap4 W HY hH4 ha4 hb4
         have HG1:=tQ (Grx.of ⟨hH4,ha4,hb4⟩ HV.out)
         clear hH4 ha4 hb4)
      |fail)
    go_ret
    rw[<-HY.out]
    exact⟨q4,cap4,rfl,HG1.out⟩
theorem lf(b:Bool)(B:Nat)(w:World)(v:Value)(xs:L8)(hv:Has w B v xs)(hB:B<=w.1.size)(hl:xs.length<=140000000000000):Calls Tryz.prog 71 #[v,.bool b] w (bG w B (xs++if b then [116,114,117,101] else [102,97,108,115,101])):=by
 have HC:=tQ (io b B w v xs hv hB hl)
 generalize xs++(if b then [116,114,117,101] else [102,97,108,115,101])=L at *
 clear hv
 go_enter Tryz.func71,Tryz.ntmps71
 go_wp2_with fail
 refine HC.out.mono ?_
 intro e w1 hh
 obtain⟨q,cap,he,hg⟩:=hh.open
 subst he
 have HG:=tQ hg
 clear hh hg HC
 go_wp2
 go_ret
 exact⟨q,cap,rfl,HG.out⟩
theorem mm(i:Int)(h0:-9223372036854775808<=i∧i<=9223372036854775807)(B:Nat)(w:World)(v:Value)(xs:L8)(hv:Has w B v xs)(hB:B<=w.1.size)(hl:xs.length<=140000000000000)(hh:Hv w)(hB7:7<=B):Calls Tryz.prog 72 #[v,.int .i64 i,.int .i64 10] w (bG w B (xs++Lib.itoa i)):=by
 refine(Tryz.strconv_AppendInt_10 B xs.length i h0.1 h0.2 v (cellsOf xs) w hv hB (by omega) (fun w' hb=>(hh.on hb hB7).tab)).mono ?_
 rintro e w' ⟨v',rfl,hr,hb,ho⟩
 have hh2:Has w' B v' (xs++Lib.itoa i):=by
  unfold Has
  rw[List.length_append]
  have e1:cellsOf (xs++Lib.itoa i)=cellsOf xs++Lib.byteCells (Lib.itoa i):=by simp[cellsOf,Lib.byteCells]
  rw[e1]
  exact hr
 obtain⟨q,cap,hq,-,-⟩:=hh2.at
 subst hq
 refine⟨q,cap,rfl,hh2,hb.os,hb.tape,hb.output,hb.size,fun k o hk hc=>?_⟩
 rcases hc with hc | hc
 ·exact(hb.block k hc).trans hk
 ·exact ho k o hk (by simp) hc
theorem mn:∀v:Fin 256,bits .and .u8 (v.val:Int) 15=((v.val % 16:Nat):Int):=by decide +kernel
theorem ss(v:Nat)(h:v<256):bits .and .u8 (v:Int) 15=((v % 16:Nat):Int):=mn ⟨v,h⟩
theorem rh:∀a:Fin 16,(ByteArray.mk #[48,49,50,51,52,53,54,55,56,57,97,98,99,100,101,102])[a.val]'a.isLt=Tx.hexd a.val:=by decide +kernel
theorem sX(a:Nat)(h:a<16):(ByteArray.mk #[48,49,50,51,52,53,54,55,56,57,97,98,99,100,101,102])[a]'h=Tx.hexd a:=rh ⟨a,h⟩
theorem eo(q:UInt8)(hq:q=34∨q=39)(t:ByteArray)(ht:t.size<=1024)(B:Nat)(w:World)(v:Value)(xs:L8)(hv:Has w B v xs)(hB:B<=w.1.size)(hl:xs.length<=140000000000000):Calls Tryz.prog 74 #[v,.string t,.int .u8 (q.toNat:Int)] w (bG w B (xs++Tx.quo q t.data.toList)):=by
  obtain⟨l,hll⟩:∃l,l=t.data.toList:=⟨_,rfl⟩
  have hln:l.length=t.size:=by rw[hll];show t.data.toList.length=t.data.size;simp
  rw[<-hll]
  have HLl:=tQ hll
  have HV:=tQ hv
  have htI:(t.size:Int)<=1024:=by omega
  have HLn:=tQ hln
  have q8:(q.toNat:Int)<256:=by have:=q.toNat_lt;omega
  have HQ:=tQ hq
  clear hv hll hln hq
  go_enter Tryz.func74,Tryz.ntmps74
  go_wp2_with (first
    | (at_builtin;refine bo rfl HV.out q (by omega) hB rfl rfl rfl rfl rfl rfl ?_
       intro q7 cap7 W7 zs7 HZ7 hg7
       have HG7:=tQ (Grx.of hg7 HV.out)
       clear hg7)
    |fail)
  have HZ0:Hid (zs7=xs++qtd q l 0):=by show _=_;rw[HZ7.out];simp[qtd]
  clear HZ7
  go_loopw [0,15] (fun v0 v15 wr=>∃(j:Nat) (zs:L8) (p:OA) (cap:Nat),j<=t.size∧v15=.int .i64 j∧v0=.slice p zs.length cap∧Hid (zs=xs++qtd q l j∧Grx w B wr (.slice p zs.length cap) zs)) (fun _ v15 _=>t.size-(intOf v15).toNat)
  case atStart=>exact⟨0,zs7,q7,cap7,by omega,rfl,rfl,HZ0.out,HG7.out⟩
  case round=>
    obtain⟨j,zs,p,cap,hj,rfl,rfl,HL⟩:=hrel
    have hBr:B<=wr.1.size:=Nat.le_trans hB HL.out.2.size
    have HHr:=tQ HL.out.2.has
    have hzl:zs.length<=140000000010000:=by rw[HL.out.1,List.length_append];have:=mz q l j;omega
    by_cases hlt:j<t.size
    · have hj1:(j:Int)<(t.size:Int):=by omega
      have hjl:j<l.length:=by have:=HLn.out;omega
      have htj:t[j]'hlt=l[j]'hjl:=by simp only[HLl.out];rfl
      have hnx:=kv q l j hjl
      obtain⟨c,hc⟩:∃c,c=l[j]'hjl:=⟨_,rfl⟩
      rw[<-hc] at htj hnx
      have HNx:=tQ hnx
      have c8:(c.toNat:Int)<256:=by have:=c.toNat_lt;omega
      have c9:(0:Int)<=(c.toNat:Int):=by omega
      clear hc hnx
      by_cases hcq:c=q∨c=92
      · have hes:Tx.esc q c=[92,c]:=by unfold Tx.esc;rw[if_pos hcq]
        rw[hes] at HNx
        have et:((c.toNat:Int)==(q.toNat:Int))=true∨(((c.toNat:Int)==(q.toNat:Int))=false∧((c.toNat:Int)==92)=true):=by
          by_cases h1:c=q
          · exact .inl (by rw[h1];exact beq_self_eq_true _)
          · refine .inr ⟨by rw[mQ];exact decide_eq_false h1,?_⟩
            rcases hcq with h2 | h2
            · exact absurd h2 h1
            · rw[h2];rfl
        clear hcq hes
        rcases et with e1 | ⟨e1,e2⟩
        all_goals
          go_wp2_with (first
            | (at_builtin;refine ql (n:=2) rfl HHr.out [92,c] rfl rfl (by decide) (by omega) hBr rfl rfl rfl rfl rfl ?_
               intro q8' cap8 W8 zs8 HZ8 hg8
               have HG8:=tQ (HL.out.2.trans (Grx.of hg8 HHr.out))
               clear hg8)
            |fail)
          go_roundw
          case rel=>exact⟨j+1,zs8,q8',cap8,by omega,by go_num,rfl,by rw[HZ8.out,HL.out.1,HNx.out,List.append_assoc],HG8.out⟩
          case measure=>simp[intOf];omega
      · have e1:((c.toNat:Int)==(q.toNat:Int))=false:=by rw[mQ];exact decide_eq_false (fun h=>hcq (.inl h))
        have e2:((c.toNat:Int)==92)=false:=by
          have:((c.toNat:Int)==92)=decide (c=92):=mQ (d:=92)
          rw[this];exact decide_eq_false (fun h=>hcq (.inr h))
        have HPl:=tQ (fun w'=>gO (c.toNat:Int) w')
        by_cases hpl:32<=c.toNat∧c.toNat<=126
        · have hes:Tx.esc q c=[c]:=by unfold Tx.esc;rw[if_neg hcq,if_pos hpl]
          rw[hes] at HNx
          have hrp:ez (c.toNat:Int)=true:=by unfold ez;exact decide_eq_true (by omega)
          rw[hrp] at HPl
          clear hcq hes hpl hrp
          go_wp2_with fail
          refine(HPl.out _).mono ?_
          rintro e w1 ⟨rfl,hw1⟩
          rw[hw1]
          clear hw1 w1 HPl
          go_wp2_with (first
            | (at_builtin;refine bo rfl HHr.out c (by omega) hBr rfl rfl rfl rfl rfl rfl ?_
               intro q8' cap8 W8 zs8 HZ8 hg8
               have HG8:=tQ (HL.out.2.trans (Grx.of hg8 HHr.out))
               clear hg8)
            |fail)
          go_roundw
          case rel=>exact⟨j+1,zs8,q8',cap8,by omega,by go_num,rfl,by rw[HZ8.out,HL.out.1,HNx.out,List.append_assoc],HG8.out⟩
          case measure=>simp[intOf];omega
        · have hes:Tx.esc q c=[92,120,Tx.hexd (c.toNat / 16),Tx.hexd (c.toNat % 16)]:=by unfold Tx.esc;rw[if_neg hcq,if_neg hpl]
          rw[hes] at HNx
          have hrp:ez (c.toNat:Int)=false:=by unfold ez;exact decide_eq_false (by omega)
          rw[hrp] at HPl
          have hand:bits .and .u8 (c.toNat:Int) 15=((c.toNat % 16:Nat):Int):=ss c.toNat (by omega)
          have hdiv:(c.toNat:Int) / 16=((c.toNat / 16:Nat):Int):=by omega
          obtain⟨a,ha⟩:∃a,a=c.toNat / 16:=⟨_,rfl⟩
          obtain⟨b,hb⟩:∃b,b=c.toNat % 16:=⟨_,rfl⟩
          rw[<-ha] at hdiv HNx
          rw[<-hb] at hand HNx
          have a1:a<16:=by omega
          have b1:b<16:=by omega
          have a2:(0:Int)<=(a:Int):=by omega
          have b2:(0:Int)<=(b:Int):=by omega
          have a3:(a:Int)<16:=by omega
          have b3:(b:Int)<16:=by omega
          have a4:a<(ByteArray.mk #[48,49,50,51,52,53,54,55,56,57,97,98,99,100,101,102]).size:=a1
          have b4:b<(ByteArray.mk #[48,49,50,51,52,53,54,55,56,57,97,98,99,100,101,102]).size:=b1
          have a5:(ByteArray.mk #[48,49,50,51,52,53,54,55,56,57,97,98,99,100,101,102])[a]'a4=Tx.hexd a:=sX a a1
          have b5:(ByteArray.mk #[48,49,50,51,52,53,54,55,56,57,97,98,99,100,101,102])[b]'b4=Tx.hexd b:=sX b b1
          clear hcq hes hpl hrp ha hb
          go_wp2_with fail
          refine(HPl.out _).mono ?_
          rintro e w1 ⟨rfl,hw1⟩
          rw[hw1]
          clear hw1 w1 HPl
          go_wp2_with fail
          go_region_law (first
            | (refine mV (B:=B) (xs:=zs) (v:=.slice p zs.length cap) (w:=wr.drew) (H:=wr.1.size) (n:=4) (by rfl) HHr.out.drew [92,120,Tx.hexd a,Tx.hexd b] (by rfl) (by rfl) (by decide) (by omega) hBr (.tmp 21) (.tmp 28) (by rfl) (by rfl) (by rfl) (by rfl) (by rfl) ?_
               intro q8' cap8 W8 zs8 HZ8 hg8
               have hg8':aQ wr B (.slice p zs.length cap) W8 (.slice q8' zs8.length cap8) zs8:=⟨hg8.has,⟨hg8.aside.os,hg8.aside.tape,hg8.aside.output,hg8.aside.size,hg8.aside.block⟩,hg8.fresh⟩
               have HG8:=tQ (HL.out.2.trans (Grx.of hg8' HHr.out))
               clear hg8 hg8'))
          all_goals
            go_wp2
            go_roundw
            case rel=>exact⟨j+1,zs8,q8',cap8,by omega,by go_num,rfl,by rw[HZ8.out,HL.out.1,HNx.out,List.append_assoc],HG8.out⟩
            case measure=>simp[intOf];omega
    · have hjn:¬(j:Int)<(t.size:Int):=by omega
      have hqe:=qB q l j (by have:=HLn.out;omega)
      have HQe:=tQ hqe
      clear hqe
      go_wp2_with (first
        | (at_builtin;refine bo rfl HHr.out q (by omega) hBr rfl rfl rfl rfl rfl rfl ?_
           intro q8' cap8 W8 zs8 HZ8 hg8
           have HG8:=tQ (HL.out.2.trans (Grx.of hg8 HHr.out))
           clear hg8)
        |fail)
      go_ret
      have e:xs++Tx.quo q l=zs8:=by rw[HZ8.out,HL.out.1,<-HQe.out,List.append_assoc]
      rw[e]
      exact⟨q8',cap8,rfl,HG8.out⟩
end
end Go.Proofs.YtllbniljgcgbeaaGreatDoor
