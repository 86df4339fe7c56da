import Derived.RangeFuncNested
import Derived.RangeFuncBound
import Derived.Shelf.RegionOpen
import Derived.OwnWalkIn
import Derived.LoopNIn
import Derived.LoopIn
import Derived.Test.YtceomhodhmcknaaGreatDoorA12
set_option maxRecDepth 100000
set_option maxHeartbeats 2000000
namespace Go.Proofs.YtceomhodhmcknaaGreatDoor
variable{b c l n:Nat}{W w w':World}{v:Value}{p:OA}{a:Act}{T:TypeId}{P:Program}{assign body:Code}
section
open Go.RowKit Go.Shelf
abbrev fW(fn:FuncId)(tmps:AV)(ps:Array Tmp)(assign body:Code)(D:Nat)(st:LoopState)(pe:Option Code):Loop:={ state:=st,pending:=pe,fn:=fn,tmps:=tmps,params:=ps,assign:=assign,body:=body,defers:=D }
def tR(l:Nat)(L:LoopState->Option Code->Loop)(R:Bool->World->Prop):Exit->Act->World->Prop
 |.normal,_,W=>W.1[l]?=some (.loop (L .busy none))∧R true (W.putObj l (.loop (L .ready none)))
 |.ret,_,W=>W.1[l]?=some (.loop (L .busy none))∧R false (W.putObj l (.loop (L .done (some .ret))))
 |_,_,_=>False
theorem dF{m:Nat}{D:Nat}{fn:FuncId}{tmps:AV}{ps:Array Tmp}{args:AV}{R:Bool->World->Prop}(hl:W.1[l]?=some (.loop (fW fn tmps ps assign body D .ready none)))(hs:args.size=ps.size)(h:assign.wpIn (Fence.wide.inRound l) m P (Exit.then (fun a1 W1=>W1.1[l]?=some (.loop (fW fn tmps ps assign body D .ready none)) ∧
    body.wpIn (Fence.wide.inRound l) m P (tR l (fW fn tmps ps assign body D) R) a1 (W1.putObj l (.loop (fW fn tmps ps assign body D .busy none)))) (fun _ _ _=>False))
   { tmps:=(ps.zip args).foldl (fun t (p,v)=>t.setIfInBounds p v) tmps,defers:=[] } W):
  YieldAt Fence.wide m P l args W fun e W'=>∃b,e=.returned (.bool b)∧R b W':=by
 refine⟨_,_,_,_,run_yield hl hs,roundIn_of_wpIn trivial (wpIn_mono h ?_)⟩
 intro e a1 W1 h1
 cases e with
 |normal=>
  obtain⟨hl1,hb⟩:=h1
  refine⟨_,run_beginRound hl1 rfl,wpIn_mono hb ?_⟩
  intro e2 a2 W2 h2
  cases e2 with
  |normal=>exact⟨_,_,run_endRound none h2.1,true,rfl,h2.2⟩
  |ret=>exact⟨_,_,run_endRound (some .ret) h2.1,false,rfl,h2.2⟩
  |exit i=>exact h2.elim
  |goto t=>exact h2.elim
  |panic c=>exact h2.elim
  |outgrown=>exact h2.elim
 |exit i=>exact h1.elim
 |goto t=>exact h1.elim
 |ret=>exact h1.elim
 |panic c=>exact h1.elim
 |outgrown=>exact h1.elim
theorem fX{g:Operand}{ps:Array Tmp}{Q:Exit->Act->World->Prop}{gf:FuncId}{lb:AV}(hg:a.eval g=.func (.func gf) #[] lb)(eg:∀args w,(callFunc gf args).run P w=.ok (.enter gf args) w)(h:∀fn,Calls P gf (#[.func (.yield (w.1.size+1)) #[] #[]]++lb) ((w.alloc (.deferred (some []))).alloc (.loop (fW fn a.tmps ps assign body w.1.size .ready none))) fun e W=>(∃v,e=.returned v) ∧
      ((W.1[w.1.size+1]?=some (.loop (fW fn a.tmps ps assign body w.1.size .ready none))∧Q .normal { a with defers:={ target:=.collected w.1.size,args:=#[] }::a.defers } (W.putObj (w.1.size+1) (.loop (fW fn a.tmps ps assign body w.1.size .exhausted none)))) ∨
       (W.1[w.1.size+1]?=some (.loop (fW fn a.tmps ps assign body w.1.size .done (some .ret)))∧Code.ret.wpIn Fence.wide n P Q { a with defers:={ target:=.collected w.1.size,args:=#[] }::a.defers } (W.putObj (w.1.size+1) (.loop (fW fn a.tmps ps assign body w.1.size .exhausted (some .ret))))))):
    (Code.rangeFunc g ps assign body).wpIn Fence.wide n P Q a w:=by
  refine wpIn_rangeFunc ?_
  intro fn _
  obtain⟨W1,hW1⟩:∃W1,W1=(w.alloc (.deferred (some []))).alloc (.loop (fW fn a.tmps ps assign body w.1.size .ready none)):=⟨_,rfl⟩
  have h':=h fn
  rw[<-hW1] at h'
  refine⟨w.1.size+1,[{ target:=.collected w.1.size,args:=#[] }],W1,{ target:=.fn (.func gf) lb,args:=#[.func (.yield (w.1.size+1)) #[] #[]] },W1,gf,#[.func (.yield (w.1.size+1)) #[] #[]]++lb,W1,by rw[hW1];exact run_enterLoop_outer _ _ _ _ _,?_,fun _ _=>trivial,?_,fun hc=>by simp[Fence.wide] at hc,?_⟩
  · simp only[resolve,hg]
    simp[go_sem]
  · simp[invoke,go_sem,eg]
  · refine(callsIn_wide.2 h').mono ?_
    rintro e W ⟨⟨v,rfl⟩,⟨hl,hq⟩ | ⟨hl,hq⟩⟩
    · exact⟨none,_,run_endLoop hl (by simp),hq⟩
    · exact⟨some .ret,_,run_endLoop hl (by simp),hq⟩
theorem cn{F:Fence}{ops:Array Oper}{rest:List Oper}{o:Oper}{Q:Exit->Act->World->Prop}{s x:Operand}{t tx:TypeId}{vs vx v':Value}(h:cf P t tx o.type vs vx w v' w')(hg:o.guard=none)(hop:o.op=Op.call { callee:=Callee.builtin Builtin.append,args:=#[s,x],argTypes:=#[t,tx] })(hs:a.eval s=vs)(hx:a.eval x=vx)(hK:wpListIn F n P ops Q rest (a.put o.dst v') w'):wpListIn F n P ops Q (o::rest) a w:=by
 refine wpListIn_plain hg fun K hK'=>?_
 have hrun:=h.run
 unfold Oper.wpIn
 refine⟨?_,?_⟩
 ·simp[Oper.about,hop,resolve,Target.leads,Sem.run_pure]
 ·rw[Oper.semAt_plain F _ _ (by rw[hop];intro c hc';cases hc')]
  simp[execOp,hop,resolve,invoke,builtin,hs,hx,hrun,Result.andThen]
  exact hK' _ _ hK
theorem mr{F:Fence}{B:Nat}{xs l:L8}(hown:Has w B v xs)(h:At w p l)(hlen:xs.length+l.length<=140737488355328)(hB:B<=w.1.size){ops:Array Oper}{rest:List Oper}{o:Oper}{a:Act}{Q:Exit->Act->World->Prop}{y x:Operand}(ht:o.type=22)(hg:o.guard=none)(hop:o.op=Op.call { callee:=Callee.builtin Builtin.append,args:=#[y,x],argTypes:=#[22,22] })(hs:a.eval y=v)(hx:a.eval x=.slice p l.length c)(hK:∀ys q cap W,Hid (ys=xs++l)->Has W B (.slice q ys.length cap) ys->Aside (fun k=>v.ownBlock=some k) w W->(∀k,(Value.slice q ys.length cap).ownBlock=some k->v.ownBlock=some k∨w.1.size<=k)->wpListIn F n Tryz.prog ops Q rest (a.put o.dst (.slice q ys.length cap)) W):
  wpListIn F n Tryz.prog ops Q (o::rest) a w:=by
 obtain⟨q,cap,W,hr,hm,ha,-,hb⟩:=dG B v xs l p c w hown h hlen hB
 have hr':cf Tryz.prog 22 22 o.type v (.slice p l.length c) w (.slice q (xs++l).length cap) W:=by rw[ht];exact hr
 exact cn hr' hg hop hs hx (hK _ q cap W (xQ rfl) hm ha hb)
theorem bR(o:Obj):Aside (fun k=>k=l) W (W.putObj l o):=⟨rfl,rfl,rfl,by simp,fun k _ hne=>World.putObj_heap_other hne⟩
theorem bo(o:Obj)(h:n<=l)(hn:n<=W.1.size):Below n W (W.putObj l o):=(bR o).below hn (fun k hk hc=>by subst hc;omega)
theorem At.turn{L:Nat}{r:Loop}{l:L8}(h:At W p l)(hl:W.1[L]?=some (.loop r))(o:Obj):At (W.putObj L o) p l:=by
 rcases h with rfl | ⟨b,oo,rfl,h1,h2⟩
 ·exact .inl rfl
 ·by_cases he:l=[]
  ·exact .inl he
  ·have hne:b≠L:=fun hc=>by
    subst hc
    have h0:0<l.length:=List.length_pos_iff.2 he
    have:=h2 0 h0
    simp[World.cell?,hl] at this
   refine .inr ⟨b,oo,rfl,by simpa using h1,fun j hj=>?_⟩
   rw[World.cell?_of_block (w:=W) (World.putObj_heap_other hne)]
   exact h2 j hj
end
section
open Go.RowKit Go.Shelf
attribute [local go_sem] af Oper.semAt_some
theorem am(h:w.1[b]?=some (.cells #[v] T (0,0))):w.cell? ⟨b,0,none⟩=some v:=by simp[World.cell?,h]
theorem aI(h:w.1[b]?=some (.cells #[v] T (0,0))):w.frozen? ⟨b,0,none⟩=false:=by simp[World.frozen?,h]
structure fJ(w:World)(p:OA)(c:Nat)(l:List (List V)):Prop where
 len:l.length*24<=140737488351232
 cap:l.length<=c
 rows:∀j (hj:j<l.length),∃b o q d,p=some ⟨b,o,none⟩∧b<w.1.size∧w.cell? ⟨b,o+j,none⟩=some (.slice q l[j].length d)∧aW w q d l[j]
theorem fJ.on{l:List (List V)}(h:fJ w p c l)(hb:Below w.1.size w w'):fJ w' p c l :=
 ⟨h.len,h.cap,fun j hj=>by
  obtain⟨b,o,q,d,h1,h2,h3,h4⟩:=h.rows j hj
  exact⟨b,o,q,d,h1,by have:=hb.size;omega,ae hb h3,h4.on hb⟩⟩
theorem qf(l:List (List V))(HE:∀(s:List Col) (p:OA) (c:Nat) (vs:List V) (q:OA) (d:Nat) (w:World),vs∈l->dc w p c s->aW w q d vs->Calls Tryz.prog 67 #[.agg #[.slice p s.length c],.agg #[.slice q vs.length d]] w (Told w (Rw.err s vs) (Rw.out s vs)))(s:List Col)(p:OA)(c:Nat)(q:OA)(d:Nat)(sb lb:Nat)(L:Nat)(J:Nat->World->Prop)(X:Nat->World->Prop)(W:World)(hJb:∀i W,J i W->dc W p c s∧fJ W q d l∧W.1[sb]?=some (.cells #[.slice p s.length c] 53 (0,0))∧W.1[lb]?=some (.cells #[.slice q l.length d] 55 (0,0)))(hJn:∀i W W',J i W->Below W.1.size W W'->J i W')(h0:J 0 W)(good:∀m i (h:i<l.length) W qq cap,J i W->(∀j (h:j<l.length),j<i->Rw.err s l[j]=0)->Rw.err s l[i]=0->At W qq (Rw.bytes l[i])->YieldAt Fence.wide m Tryz.prog L #[.slice qq (Rw.bytes l[i]).length cap,.int .i64 0] W fun e W'=>∃b,e=.returned (.bool b)∧b=true∧J (i+1) W')(bad:∀m i (h:i<l.length) W qq cap,J i W->Rw.err s l[i]≠0->YieldAt Fence.wide m Tryz.prog L #[.slice qq 0 cap,.int .i64 (Rw.err s l[i]:Nat)] W fun e W'=>∃b,e=.returned (.bool b)∧b=false∧X (Rw.err s l[i]) W'):
  Calls Tryz.prog 66 #[.func (.yield L) #[] #[],.pointer (some ⟨lb,0,none⟩),.pointer (some ⟨sb,0,none⟩)] W fun e W'=>(∃v,e=.returned v)∧((Bt.rowsErr s l=0∧J l.length W')∨(Bt.rowsErr s l≠0∧X (Bt.rowsErr s l) W')):=by
 have hlen:=(hJb 0 W h0).2.1.len
 have HJb:=xQ hJb
 have HJn:=xQ hJn
 have H0:=xQ h0
 have HG:=xQ good
 have HBd:=xQ bad
 have HEn:=xQ HE
 have n0:=am (hJb 0 W h0).2.2.2
 clear hJb hJn h0 good bad HE
 refine(callsIn_wide (n:=3)).1 ?_
 refine callsIn_of_wp Tryz.func66 rfl trivial ?_ rfl
 simp only[Tryz.ntmps66,List.size_toArray,List.length_cons,List.length_nil,Nat.reduceAdd,Nat.reduceSub,Array.replicate_succ,Array.replicate_zero,List.push_toArray,List.append_toArray,List.nil_append,List.cons_append]
 gi_wp2
 gi_loopw [10] (fun v10 wr=>∃i:Nat,i<=l.length∧v10=.int .i64 i∧Hid ((∀j (h:j<l.length),j<i->Rw.err s l[j]=0)∧J i wr)) (fun v10 _=>l.length-(intOf v10).toNat)
 case atStart=>exact⟨0,by omega,rfl,fun j _ h=>by omega,H0.out⟩
 case round=>
  clear n0
  obtain⟨i,hi,rfl,HK⟩:=hrel
  obtain⟨hS0,hL0,hsb0,hlb0⟩:=HJb.out i wr HK.out.2
  by_cases hlt:i<l.length
  ·have hlt':(i:Int)<(l.length:Int):=by omega
   obtain⟨b,o,qr,dr,rfl,hbl,c0,hR⟩:=hL0.rows i hlt
   have HR:=xQ hR
   have HS:=xQ hS0
   obtain⟨wa,hwa⟩:∃wa,wa=wr.alloc (.cells #[.slice qr l[i].length dr] 35):=⟨_,rfl⟩
   have hba:Below wr.1.size wr wa:=by rw[hwa];exact xY
   have n1:=fun o=>ae ((Below.refl wr.1.size wr).alloc xX o) (am hsb0)
   have HBa:=xQ hba
   have HWA:=xQ hwa
   clear hwa hba hR hS0 hL0 hsb0 hlb0
   gi_wp2
   refine⟨trivial,?_⟩
   refine(callsIn_wide.2 (HEn.out s p c l[i] qr dr _ (List.getElem_mem _) (HS.out.on ?_) (HR.out.on ?_))).mono ?_
   ·rw[<-HWA.out];exact HBa.out
   ·rw[<-HWA.out];exact HBa.out
   rintro e w1 ⟨q1,c1,rfl,hA1,hc1,hb1⟩
   rw[<-HWA.out] at hb1
   have HJ1:=xQ (HJn.out i wr w1 HK.out.2 (HBa.out.trans (hb1.mono HBa.out.size)))
   obtain⟨er,her⟩:∃er,er=Rw.err s l[i]:=⟨_,rfl⟩
   by_cases he:Rw.err s l[i]=0
   ·have hout:Rw.out s l[i]=Rw.bytes l[i]:=by unfold Rw.out;rw[if_pos he]
    rw[hout] at hA1 hc1 ⊢
    rw[he]
    obtain⟨fn,tmps,assign,body,hy,hR1⟩:=HG.out 2 i hlt w1 q1 c1 HJ1.out HK.out.1 he hA1
    have HE0:=xQ he
    clear hout hA1 he her
    gi_wp2
    refine hR1.mono ?_
    rintro e w2 ⟨bb,rfl,rfl,hJ2⟩
    have HJ2:=xQ hJ2
    clear hJ2
    gi_wp2
    go_roundw
    case rel=>
     refine⟨i+1,by omega,by go_num,fun j hj hji=>?_,HJ2.out⟩
     by_cases hje:j=i
     ·subst hje;exact HE0.out
     ·exact HK.out.1 j hj (by omega)
    case measure=>simp[intOf];omega
   ·have hout:Rw.out s l[i]=[]:=by unfold Rw.out;rw[if_neg he]
    rw[hout] at hA1 hc1 ⊢
    have hy0:=HBd.out 2 i hlt w1 q1 c1 HJ1.out he
    have HE0:=xQ (Bt.rowsErr_at i hlt HK.out.1 he)
    have HNe:=xQ he
    rw[<-her] at hy0 he HE0 HNe ⊢
    obtain⟨fn,tmps,assign,body,hy,hR1⟩:=hy0
    clear hout hA1 her
    gi_wp2
    refine hR1.mono ?_
    rintro e w2 ⟨bb,rfl,rfl,hX2⟩
    have HX2:=xQ hX2
    clear hX2
    gi_wp2
    refine bodyPost_ret (results_none rfl _ _ _) rfl ?_
    exact⟨⟨_,rfl⟩,.inr ⟨by rw[HE0.out];exact HNe.out,by rw[HE0.out];exact HX2.out⟩⟩
  ·have hie:i=l.length:=by omega
   subst hie
   gi_wp2
   go_end0
   exact⟨⟨_,rfl⟩,.inl ⟨Bt.rowsErr_all (fun j hj=>HK.out.1 j hj hj),HK.out.2⟩⟩
end
section
open Go.RowKit
attribute [local go_sem] af
structure RowsIn(m:List (List V)):Prop where
 encode:∀(s:List Col) (p:OA) (c:Nat) (vs:List V) (q:OA) (d:Nat) (w:World),vs∈m->dc w p c s->aW w q d vs->Calls Tryz.prog 67 #[.agg #[.slice p s.length c],.agg #[.slice q vs.length d]] w (Told w (Rw.err s vs) (Rw.out s vs))
 decode:∀(s:List Col) (p:OA) (c:Nat) (l:L8) (q:OA) (d:Nat) (a:Int) (w:World),dc w p c s->l.length<=140737488351232->l.length<=d->At w q l->-9223372036854775808<=a->a<=9223372036854775807->Calls Tryz.prog 94 #[.agg #[.slice p s.length c],.slice q l.length d,.int .i64 a] w (tU w (Rw.read s l a))
theorem kE{m:List (List V)}(HR:RowsIn m)(s:List Col)(p:OA)(c:Nat)(w:World)(hS:dc w p c s):
  Calls Tryz.prog 65 #[.agg #[.slice p s.length c]] w fun e w'=>e=.returned (.int .i64 (Sch.err s:Nat))∧Below w.1.size w w':=by
 obtain⟨W0,hW0⟩:∃W0,W0=w.alloc (.cells #[.slice p s.length c] 53):=⟨_,rfl⟩
 have hb0:Below w.1.size w W0:=by rw[hW0];exact xY
 have hD:=HR.decode s p c [] none 0 (-1) W0 (hS.on hb0) (by simp) (by simp) (.inl rfl) (by omega) (by omega)
 rw[Bt.read_none] at hD
 obtain⟨er,her⟩:∃er,er=Sch.err s:=⟨_,rfl⟩
 have hne:=Bt.schErr_ne s
 rw[<-her] at hD hne ⊢
 have HD:=xQ hD
 have HB:=xQ hb0
 have HW:=xQ hW0
 clear hD hb0 hW0 her
 go_enter Tryz.func65,Tryz.ntmps65
 go_wp2_with fail
 rw[<-HW.out]
 refine HD.out.mono ?_
 rintro e w1 ⟨rfl,hb1⟩
 have HB1:=xQ (HB.out.trans (hb1.mono HB.out.size))
 clear hb1
 by_cases h0:er=0
 ·rw[if_pos h0]
  have HE:=xQ h0
  clear h0
  go_wp2
  go_ret
  exact⟨by rw[HE.out];rfl,HB1.out.alloc HB1.out.size _⟩
 ·rw[if_neg h0]
  have g0:((er:Int) != 30)=true:=bC (by omega)
  go_wp2
  go_ret
  exact⟨rfl,HB1.out.alloc HB1.out.size _⟩
theorem oL{m:List (List V)}(HR:RowsIn m)(s:List Col)(p:OA)(c:Nat)(n:Int)(w:World)(hS:dc w p c s):
  Calls Tryz.prog 41 #[.agg #[.slice p s.length c],.int .i64 n] w fun e w'=>e=.returned (.int .i64 (Bt.numErr s n:Nat))∧Below w.1.size w w':=by
 obtain⟨W0,hW0⟩:∃W0,W0=w.alloc (.cells #[.slice p s.length c] 53):=⟨_,rfl⟩
 have hb0:Below w.1.size w W0:=by rw[hW0];exact xY
 have HD:=xQ (kE HR s p c W0 (hS.on hb0))
 obtain⟨R,hR⟩:∃R,R=Bt.numErr s n:=⟨_,rfl⟩
 rw[<-hR]
 unfold Bt.numErr at hR
 obtain⟨er,her⟩:∃er,er=Sch.err s:=⟨_,rfl⟩
 rw[<-her] at HD hR
 have HB:=xQ hb0
 have HW:=xQ hW0
 have HRR:=xQ hR
 clear hb0 hW0 her hR
 go_enter Tryz.func41,Tryz.ntmps41
 go_wp2_with fail
 rw[<-HW.out]
 refine HD.out.mono ?_
 rintro e w1 ⟨rfl,hb1⟩
 have HB1:=xQ (HB.out.trans (hb1.mono HB.out.size))
 clear hb1
 by_cases h0:er≠0
 ·have g0:((er:Int) != 0)=true:=bC (by omega)
  have HE:Hid (R=er):=HRR.out.trans (if_pos h0)
  clear HRR h0
  go_wp2
  go_ret
  rw[HE.out]
  exact⟨rfl,HB1.out⟩
 have g0:((er:Int) != 0)=false:=cg (by omega)
 have HR1:=xQ (HRR.out.trans (if_neg h0))
 clear HRR h0
 by_cases h1:n<1
 ·have HE:Hid (R=4):=HR1.out.trans (if_pos h1)
  clear HR1
  go_wp2
  go_ret
  exact⟨by rw[HE.out];rfl,HB1.out⟩
 have HR2:=xQ (HR1.out.trans (if_neg h1))
 clear HR1
 by_cases h2:64<n
 ·have HE:Hid (R=3):=HR2.out.trans (if_pos h2)
  clear HR2
  go_wp2
  go_ret
  exact⟨by rw[HE.out];rfl,HB1.out⟩
 ·have HE:Hid (R=0):=HR2.out.trans (if_neg h2)
  clear HR2
  go_wp2
  go_ret
  exact⟨by rw[HE.out];rfl,HB1.out⟩
end
section
open Go.RowKit Go.Shelf
attribute [local go_sem] af Oper.semAt_some
theorem r9(s:List Col)(p:OA)(c:Nat)(n:Nat)(q:OA)(d:Nat)(w:World):
  Calls Tryz.prog 42 #[.agg #[.slice p s.length c],.slice q n d] w fun e w'=>e=.returned (.func (.func 66) #[] #[.pointer (some ⟨w.1.size+1,0,none⟩),.pointer (some ⟨w.1.size,0,none⟩)])∧w'=(w.alloc (.cells #[.slice p s.length c] 53)).alloc (.cells #[.slice q n d] 55):=by
 go_enter Tryz.func42,Tryz.ntmps42
 go_wp2
 go_ret
 exact⟨rfl,rfl⟩
theorem bL{fn:Func}{p q:Tmp}{ty ty2 e:TypeId}(h:fn.results=#[.cell p ty,.cell q ty2])(tmps:AV)(w:World)(g g2:Nat)(v:Value)(x:Int)(hp:tmps.getD p undef=.pointer (some ⟨g,0,none⟩))(hg:w.cell? ⟨g,0,none⟩=some v)(hu:P.underlying ty=some (.slice e))(hq:tmps.getD q undef=.pointer (some ⟨g2,0,none⟩))(hg2:w.cell? ⟨g2,0,none⟩=some (.int .i64 x))(hu2:P.underlying ty2=some (.int .i64)):
  (results fn tmps).run P w=.ok (.tuple #[v,.int .i64 x]) w:=by
 have hp':tmps[p]?.getD undef=.pointer (some ⟨g,0,none⟩):=by simpa using hp
 have hq':tmps[q]?.getD undef=.pointer (some ⟨g2,0,none⟩):=by simpa using hq
 have h1:(loadVar ty ⟨g,0,none⟩).run P w=.ok v w:=by
  simp[go_sem,isAgg,run_underlying hu,hg]
 have h2:(loadVar ty2 ⟨g2,0,none⟩).run P w=.ok (.int .i64 x) w:=by
  simp[go_sem,isAgg,run_underlying hu2,hg2]
 simp[results,h,hp',hq',asAddr,h1,h2]
structure dM(w w3:World)(B:Nat)(rec:Loop)(v:Value)(xs:L8)(W:World):Prop where
 below:Below w.1.size w W
 same:∀k,k<w3.1.size->k≠B->W.1[k]?=w3.1[k]?
 box:W.1[B]?=some (.cells #[v] 22 (0,0))
 has:Has W (w3.1.size+2) v xs
 dfr:W.1[w3.1.size]?=some (.deferred (some []))
 lp:W.1[w3.1.size+1]?=some (.loop rec)
 size:w3.1.size+2<=W.1.size
structure uz(w w3:World)(rec:Loop)(er:Nat)(W:World):Prop where
 below:Below w.1.size w W
 r1:W.1[w.1.size+1]?=some (.cells #[.slice none 0 0] 22 (0,0))
 r2:W.1[w.1.size+1+1]?=some (.cells #[.int .i64 er] 36 (0,0))
 dfr:W.1[w3.1.size]?=some (.deferred (some []))
 lp:W.1[w3.1.size+1]?=some (.loop rec)
 far:w.1.size+3<=w3.1.size
section
variable {w w3 W W':World} {B:Nat} {rec:Loop} {v v':Value} {xs ys:L8}
theorem dM.on(h:dM w w3 B rec v xs W)(hb:Below W.1.size W W'):dM w w3 B rec v xs W':=by
 have hs:=h.size
 have hw:=h.below.size
 have hB:=ao h.box
 exact⟨h.below.trans (hb.mono hw),fun k hk hne=>(hb.block k (by omega)).trans (h.same k hk hne),aF h.box hb hB,h.has.on hb,aF h.dfr hb (by omega),aF h.lp hb (by omega),by have:=hb.size;omega⟩
theorem dM.turn(h:dM w w3 B rec v xs W)(hw:w.1.size<=w3.1.size)(hB:B<w3.1.size)(rec':Loop):dM w w3 B rec' v xs (W.putObj (w3.1.size+1) (.loop rec')):=by
 have hs:=h.size
 refine⟨h.below.trans (bo _ (by omega) h.below.size),fun k hk hne=>(World.putObj_heap_other (by omega)).trans (h.same k hk hne),(World.putObj_heap_other (by omega)).trans h.box,h.has.aside (bR _) (fun k hk hc=>?_),(World.putObj_heap_other (by omega)).trans h.dfr,World.putObj_heap_same (by omega),by simp;omega⟩
 have:=(h.has.lt k hk).1
 omega
theorem dM.more(h:dM w w3 B rec v xs W)(hw:w.1.size<=B)(hB:B<w3.1.size)(ha:Aside (fun k=>v.ownBlock=some k) W W')(hh:Has W' (w3.1.size+2) v' ys):
  W'.1[B]?=some (.cells #[v] 22 (0,0))∧dM w w3 B rec v' ys (W'.setCell ⟨B,0,none⟩ v'):=by
 have hs:=h.size
 have hold:∀k,k<w3.1.size+2->W'.1[k]?=W.1[k]?:=fun k hk=>ha.block k (by omega) (fun hc=>by have:=(h.has.lt k hc).1;omega)
 have hbx:W'.1[B]?=some (.cells #[v] 22 (0,0)):=(hold B (by omega)).trans h.box
 have hset:∀k,k≠B->(W'.setCell ⟨B,0,none⟩ v').1[k]?=W'.1[k]?:=fun k hk=>Below.heap_setCell _ _ _ _ hk
 have hbW:Below w.1.size W W':=ha.below h.below.size (fun k hk hc=>by have:=(h.has.lt k hc).1;omega)
 refine⟨hbx,⟨(h.below.trans hbW).setCell (p:=⟨B,0,none⟩) hw _,fun k hk hne=>?_,by simpa using al hbx 0 v',?_,?_,?_,?_⟩⟩
 ·rw[hset k hne,hold k (by omega)];exact h.same k hk hne
 ·exact hh.aside ((Aside.refl (fun k=>k=B) W').setCell (p:=⟨B,0,none⟩) (.inl rfl) v') (fun k hk hc=>by have:=(hh.lt k hk).1;omega)
 ·rw[hset _ (by omega),hold _ (by omega)];exact h.dfr
 ·rw[hset _ (by omega),hold _ (by omega)];exact h.lp
 ·have:=ha.size
  have:(W'.setCell ⟨B,0,none⟩ v').1.size=W'.1.size:=by simp[World.setCell]
  omega
end
theorem wR(s:List Col)(p:OA)(c:Nat)(l:List (List V))(HR:RowsIn l)(q:OA)(d:Nat)(w:World)(hS:dc w p c s)(hL:fJ w q d l):
    Calls Tryz.prog 26 #[.agg #[.slice p s.length c],.slice q l.length d] w (Told w (Bt.err s l) (Bt.out s l)):=by
  have hlen:=hL.len
  obtain⟨W0,hW0⟩:∃W0,W0=((w.alloc (.cells #[.slice p s.length c] 53)).alloc (.cells #[.slice none 0 0] 22)).alloc (.cells #[.int .i64 0] 36):=⟨_,rfl⟩
  obtain⟨k0,k1,k2,hb0,hs0⟩:=al3 w (.cells #[.slice p s.length c] 53) (.cells #[.slice none 0 0] 22) (.cells #[.int .i64 0] 36)
  rw[<-hW0] at k0 k1 k2 hb0 hs0
  have HC:=xQ (oL HR s p c l.length W0 (hS.on hb0))
  have HK:=xQ (And.intro k0 (And.intro k1 k2))
  have HB0:=xQ hb0
  have HW0:=xQ hW0
  have HS:=xQ hS
  have HL:=xQ hL
  have HRI:=xQ HR
  obtain⟨R,hR⟩:∃R,R=Bt.err s l:=⟨_,rfl⟩
  obtain⟨O,hO⟩:∃O,O=Bt.out s l:=⟨_,rfl⟩
  rw[<-hR,<-hO]
  unfold Bt.out at hO
  rw[<-hR] at hO
  unfold Bt.err at hR
  obtain⟨en,hen⟩:∃en,en=Bt.numErr s l.length:=⟨_,rfl⟩
  rw[<-hen] at HC hR
  have HRR:=xQ hR
  have HO:=xQ hO
  have HEn:=xQ hen
  clear hb0 hW0 hS hL HR hR hO hen k0 k1 k2
  refine(callsIn_wide (n:=5)).1 ?_
  refine callsIn_of_wp_marks Tryz.func26 rfl trivial ?_ rfl
  simp only[Tryz.ntmps26,List.size_toArray,List.length_cons,List.length_nil,Nat.reduceAdd,Nat.reduceSub,Array.replicate_succ,Array.replicate_zero,List.push_toArray,List.append_toArray,List.nil_append,List.cons_append]
  gi_wp2
  refine⟨trivial,?_⟩
  rw[<-HW0.out]
  refine(callsIn_wide.2 HC.out).mono ?_
  rintro e w1 ⟨rfl,hb1⟩
  have HB1:=xQ hb1
  have HBw1:=xQ (HB0.out.trans (hb1.mono HB0.out.size))
  have hs1:=hb1.size
  have j0:=aF HK.out.1 hb1 (by omega)
  have j1:=aF HK.out.2.1 hb1 (by omega)
  have j2:=aF HK.out.2.2 hb1 (by omega)
  have n0:=am j0
  have n1:=am j1
  have n2:=am j2
  have f1:=aI j1
  have f2:=aI j2
  have HJ:=xQ (And.intro j0 (And.intro j1 j2))
  clear hb1 HC HW0 HK HB1 j0 j1 j2
  by_cases h0:en≠0
  · have g0:((en:Int) != 0)=true:=bC (by omega)
    have HE:Hid (R=en):=HRR.out.trans (if_pos h0)
    have HOn:Hid (O=[]):=by show _=_;rw[HO.out,HE.out,if_neg h0]
    clear HRR h0 HO
    gi_wp2
    have j2:=al (aw HJ.out.2.2 ⟨w.1.size+1,0,none⟩ (.slice none 0 0) (by simp)) 0 (.int .i64 en)
    have j1:=aw (al HJ.out.2.1 0 (.slice none 0 0)) ⟨w.1.size+1+1,0,none⟩ (.int .i64 en) (by simp)
    refine⟨_,bL rfl _ _ (w.1.size+1) (w.1.size+1+1) _ _ rfl (am j1) Tryz.underlying22 rfl (am j2) Tryz.underlying36,?_⟩
    refine⟨none,0,by rw[HOn.out,HE.out];rfl,by rw[HOn.out];exact .inl rfl,by rw[HOn.out];exact xX,?_⟩
    exact(HBw1.out.setCell (p:=⟨w.1.size+1,0,none⟩) (by simp) _).setCell (p:=⟨w.1.size+1+1,0,none⟩) (by simp;omega) _
  have g0:((en:Int) != 0)=false:=cg (by omega)
  have HR1:=xQ (HRR.out.trans (if_neg h0))
  have HEn0:Hid (Bt.numErr s l.length=0):=by show _=0;rw[<-HEn.out];omega
  clear HRR h0 HEn
  have z0:=fun o=>ae ((Below.refl w1.1.size w1).alloc xX o) n0
  clear n1 n2 f1 f2
  gi_wp2
  refine⟨trivial,?_⟩
  refine(callsIn_wide.2 (r9 s p c l.length q d _)).mono ?_
  rintro e w3 ⟨rfl,hw3⟩
  obtain⟨m0,m1,m2,mb,ms⟩:=al3 w1 (.cells #[.slice none 0 0] 22) (.cells #[.slice p s.length c] 53) (.cells #[.slice q l.length d] 55)
  rw[<-hw3] at m0 m1 m2 mb ms
  have hms:w1.1.size+3<=w3.1.size:=by omega
  have HM:=xQ (And.intro m0 (And.intro m1 (And.intro m2 mb)))
  have hBw3:=xQ (HBw1.out.trans (mb.mono HBw1.out.size))
  clear hw3 m0 m1 m2 mb ms z0 n0
  gi_wp2
  refine fX (gf:=66) rfl (enters_of Tryz.func66 (by kernel_rfl) rfl) ?_
  intro fn
  generalize hrec:fW fn _ _ _ _ _=rec
  have hlo:w.1.size+3<=w1.1.size:=by omega
  have hww:w.1.size<=w3.1.size:=by omega
  have HREC:=xQ hrec
  clear hrec
  refine(qf l HRI.out.encode s p c q d (w1.1.size+1) (w1.1.size+1+1) (w3.1.size+1) (fun i W=>∃v,dM w w3 w1.1.size (rec .ready none) v (Bt.bytes (l.take i)) W) (fun er W=>uz w w3 (rec .done (some .ret)) er W) _ ?hJb ?hJn ?h0 ?good ?bad).mono ?_
  case hJb=>
    rintro i W ⟨v,h⟩
    exact⟨HS.out.on h.below,HL.out.on h.below,(h.same _ (by omega) (by omega)).trans HM.out.2.1,(h.same _ (by omega) (by omega)).trans HM.out.2.2.1⟩
  case hJn=>
    rintro i W W' ⟨v,h⟩ hb
    exact⟨v,h.on hb⟩
  case h0=>
    obtain⟨a0,a1,ab,asz⟩:=al2 w3 (.deferred (some [])) (.loop (rec .ready none))
    exact⟨.slice none 0 0,hBw3.out.trans (ab.mono hww),fun k hk _=>ab.block k hk,aF HM.out.1 ab (by omega),aX _ _,a0,a1,by omega⟩
  case good=>
    rintro m i hi W qq cap ⟨v,h⟩ hpre he hat
    have hbl:(Bt.bytes (l.take i)).length+(Rw.bytes l[i]).length<=140737488355328:=by
      have h1:=Bt.bytes_bound (Bt.rowsErr_take i hpre)
      have h2:=(Rw.err_open he).2.2.2
      have h3:(l.take i).length<=l.length:=by rw[List.length_take];omega
      have h4:=Bt.numErr_open HEn0.out
      omega
    have hlp:=h.lp
    rw[<-HREC.out] at hlp
    have hb:dM w w3 w1.1.size (rec .busy none) v (Bt.bytes (l.take i)) (W.putObj (w3.1.size+1) (.loop (rec .busy none))):=h.turn hww (by omega) _
    have hat2:At (W.putObj (w3.1.size+1) (.loop (rec .busy none))) qq (Rw.bytes l[i]):=hat.turn h.lp _
    rw[<-HREC.out] at hb hat2
    refine dF (R:=fun b W'=>b=true∧∃v,dM w w3 w1.1.size (rec .ready none) v (Bt.bytes (l.take (i+1))) W') hlp rfl ?_
    have HBd:=xQ hb
    have HAt:=xQ hat2
    have HE0:=xQ he
    have n7:=am hb.box
    have HLp:=xQ hlp
    clear hat hat2 he hpre hlp hb
    gi_wp2
    refine⟨HLp.out,?_⟩
    gi_wp2_with (first
      | (gi_at_builtin
         refine mr HBd.out.has HAt.out hbl HBd.out.size rfl rfl rfl rfl rfl ?_
         intro ys q3 cap3 W3 HY hh ha _
         obtain⟨hbx,hj⟩:=HBd.out.more (by omega) (by omega) ha hh
         have n8:=am hbx
         have f8:=aI hbx
         have HJ3:=xQ hj
         clear hh ha hbx hj)
      |fail)
    refine⟨HJ3.out.lp,rfl,.slice q3 ys.length cap3,?_⟩
    have ht:=HJ3.out.turn hww (by omega) (rec .ready none)
    rw[<-HREC.out] at ht ⊢
    have hy:ys=Bt.bytes (l.take (i+1)):=by rw[HY.out,Bt.bytes_take l i hi]
    rw[<-hy]
    exact ht
  case bad=>
    rintro m i hi W qq cap ⟨v,h⟩ he
    obtain⟨er,her⟩:∃er,er=Rw.err s l[i]:=⟨_,rfl⟩
    rw[<-her] at he ⊢
    have g1:((er:Int) != 0)=true:=bC (by omega)
    have hlp:=h.lp
    rw[<-HREC.out] at hlp
    have hb:dM w w3 w1.1.size (rec .busy none) v (Bt.bytes (l.take i)) (W.putObj (w3.1.size+1) (.loop (rec .busy none))):=h.turn hww (by omega) _
    rw[<-HREC.out] at hb
    refine dF (R:=fun b W'=>b=false∧uz w w3 (rec .done (some .ret)) er W') hlp rfl ?_
    have j1:W.1[w.1.size+1]?=some (.cells #[.slice none 0 0] 22 (0,0)):=(h.same _ (by omega) (by omega)).trans (aF HJ.out.2.1 HM.out.2.2.2 (by omega))
    have j2:W.1[w.1.size+1+1]?=some (.cells #[.int .i64 0] 36 (0,0)):=(h.same _ (by omega) (by omega)).trans (aF HJ.out.2.2 HM.out.2.2.2 (by omega))
    obtain⟨Wb,hWb⟩:∃Wb,Wb=W.putObj (w3.1.size+1) (.loop (rec .busy none)):=⟨_,rfl⟩
    have b1:Wb.1[w.1.size+1]?=some (.cells #[.slice none 0 0] 22 (0,0)):=by rw[hWb];exact(World.putObj_heap_other (by omega)).trans j1
    have b2:Wb.1[w.1.size+1+1]?=some (.cells #[.int .i64 0] 36 (0,0)):=by rw[hWb];exact(World.putObj_heap_other (by omega)).trans j2
    rw[<-HREC.out] at hWb
    rw[<-hWb] at hb
    have HBd:=xQ hb
    have HLp:=xQ hlp
    have n1:=am b1
    have f1:=aI b1
    have n2:=am b2
    have f2:=aI b2
    have HB12:=xQ (And.intro b1 b2)
    have HWb:=xQ hWb
    clear hlp hb j1 j2 b1 b2 hWb h her he
    gi_wp2
    refine⟨HLp.out,?_⟩
    rw[<-HWb.out]
    gi_wp2
    have c2:=al (aw HB12.out.2 ⟨w.1.size+1,0,none⟩ (.slice none 0 0) (by simp)) 0 (.int .i64 er)
    have c1:=aw (al HB12.out.1 0 (.slice none 0 0)) ⟨w.1.size+1+1,0,none⟩ (.int .i64 er) (by simp)
    have hset:∀k,w.1.size+2<k->((Wb.setCell ⟨w.1.size+1,0,none⟩ (.slice none 0 0)).setCell ⟨w.1.size+1+1,0,none⟩ (.int .i64 er)).1[k]?=Wb.1[k]?:=fun k hk=>by
      rw[Below.heap_setCell _ _ _ _ (by simp;omega),Below.heap_setCell _ _ _ _ (by simp;omega)]
    have hbl:=((HBd.out.below.setCell (p:=⟨w.1.size+1,0,none⟩) (by simp) (.slice none 0 0)).setCell (p:=⟨w.1.size+1+1,0,none⟩) (by simp;omega) (.int .i64 er))
    have hlp2:=(hset (w3.1.size+1) (by omega)).trans HBd.out.lp
    have hdf2:=(hset w3.1.size (by omega)).trans HBd.out.dfr
    refine⟨hlp2,rfl,?_⟩
    rw[HREC.out]
    exact⟨hbl.trans (bo _ (by omega) hbl.size),(World.putObj_heap_other (by omega)).trans (by simpa using c1),(World.putObj_heap_other (by omega)).trans (by simpa using c2),(World.putObj_heap_other (by omega)).trans hdf2,World.putObj_heap_same (ao hlp2),by omega⟩
  rintro e W4 ⟨⟨v4,rfl⟩,⟨hre,v,hJ4⟩ | ⟨hre,hX4⟩⟩
  · rw[List.take_length] at hJ4
    have h5:=hJ4.turn hww (by omega) (rec .exhausted none)
    refine⟨⟨_,rfl⟩,.inl ⟨hJ4.lp,?_⟩⟩
    obtain⟨W5,hW5⟩:∃W5,W5=W4.putObj (w3.1.size+1) (.loop (rec .exhausted none)):=⟨_,rfl⟩
    rw[<-hW5] at h5 ⊢
    obtain⟨pv,cv,rfl,hat,hcv⟩:=h5.has.at
    have HR2:=xQ (HR1.out.trans (if_neg (by rw[hre];simp)))
    have j1:W5.1[w.1.size+1]?=some (.cells #[.slice none 0 0] 22 (0,0)):=(h5.same _ (by omega) (by omega)).trans (aF HJ.out.2.1 HM.out.2.2.2 (by omega))
    have j2:W5.1[w.1.size+1+1]?=some (.cells #[.int .i64 0] 36 (0,0)):=(h5.same _ (by omega) (by omega)).trans (aF HJ.out.2.2 HM.out.2.2.2 (by omega))
    obtain⟨bs,hbs⟩:∃bs,bs=Bt.bytes l:=⟨_,rfl⟩
    rw[<-hbs] at h5 hat hcv HR2 HO
    have H5:=xQ h5
    have HAt:=xQ hat
    have n7:=am h5.box
    have n1:=am j1
    have f1:=aI j1
    have n2:=am j2
    have f2:=aI j2
    have HJ12:=xQ (And.intro j1 j2)
    clear hJ4 h5 hat j1 j2 hW5 hre hbs HR1
    by_cases hlong:2048<bs.length
    · have HE:Hid (R=2):=HR2.out.trans (if_pos hlong)
      have HOn:Hid (O=[]):=by show _=_;rw[HO.out,HE.out,if_neg (by decide)]
      clear HR2 HO
      gi_wp2
      have c2:=al (aw HJ12.out.2 ⟨w.1.size+1,0,none⟩ (.slice none 0 0) (by simp)) 0 (.int .i64 2)
      have c1:=aw (al HJ12.out.1 0 (.slice none 0 0)) ⟨w.1.size+1+1,0,none⟩ (.int .i64 2) (by simp)
      have hdf:((W5.setCell ⟨w.1.size+1,0,none⟩ (.slice none 0 0)).setCell ⟨w.1.size+1+1,0,none⟩ (.int .i64 2)).1[w3.1.size]?=some (.deferred (some [])):=by
        rw[Below.heap_setCell _ _ _ _ (by simp;omega),Below.heap_setCell _ _ _ _ (by simp;omega)];exact H5.out.dfr
      have hbl:=((H5.out.below.setCell (p:=⟨w.1.size+1,0,none⟩) (by simp) (.slice none 0 0)).setCell (p:=⟨w.1.size+1+1,0,none⟩) (by simp;omega) (.int .i64 2))
      refine⟨by simp,.inl ⟨_,_,rfl,run_takeDeferred hdf,?_⟩⟩
      refine⟨_,bL rfl _ _ (w.1.size+1) (w.1.size+1+1) _ _ rfl (am ((World.putObj_heap_other (by omega)).trans c1)) Tryz.underlying22 rfl (am ((World.putObj_heap_other (by omega)).trans c2)) Tryz.underlying36,?_⟩
      exact⟨none,0,by rw[HOn.out,HE.out];rfl,by rw[HOn.out];exact .inl rfl,by rw[HOn.out];exact xX,hbl.trans (bo _ (by omega) hbl.size)⟩
    · have HE:Hid (R=0):=HR2.out.trans (if_neg hlong)
      have HOn:Hid (O=bs):=by show _=_;rw[HO.out,HE.out,if_pos rfl]
      clear HR2 HO
      gi_wp2
      have c2:=al (aw HJ12.out.2 ⟨w.1.size+1,0,none⟩ (.slice pv bs.length cv) (by simp)) 0 (.int .i64 0)
      have c1:=aw (al HJ12.out.1 0 (.slice pv bs.length cv)) ⟨w.1.size+1+1,0,none⟩ (.int .i64 0) (by simp)
      have hdf:((W5.setCell ⟨w.1.size+1,0,none⟩ (.slice pv bs.length cv)).setCell ⟨w.1.size+1+1,0,none⟩ (.int .i64 0)).1[w3.1.size]?=some (.deferred (some [])):=by
        rw[Below.heap_setCell _ _ _ _ (by simp;omega),Below.heap_setCell _ _ _ _ (by simp;omega)];exact H5.out.dfr
      have hbl:=((H5.out.below.setCell (p:=⟨w.1.size+1,0,none⟩) (by simp) (.slice pv bs.length cv)).setCell (p:=⟨w.1.size+1+1,0,none⟩) (by simp;omega) (.int .i64 0))
      have hh:Has _ _ _ _:=(H5.out.has.aside ((((Aside.refl (fun k=>k<w3.1.size+1) W5).setCell (p:=⟨w.1.size+1,0,none⟩) (.inl (by simp;omega)) (.slice pv bs.length cv)).setCell (p:=⟨w.1.size+1+1,0,none⟩) (.inl (by simp;omega)) (.int .i64 0))) (fun k hk hc=>by have:=(H5.out.has.lt k hk).1;omega))
      have hh2:=hh.aside (bR (l:=w3.1.size) (.deferred none)) (fun k hk hc=>by have:=(hh.lt k hk).1;omega)
      refine⟨by simp,.inl ⟨_,_,rfl,run_takeDeferred hdf,?_⟩⟩
      refine⟨_,bL rfl _ _ (w.1.size+1) (w.1.size+1+1) _ _ rfl (am ((World.putObj_heap_other (by omega)).trans c1)) Tryz.underlying22 rfl (am ((World.putObj_heap_other (by omega)).trans c2)) Tryz.underlying36,?_⟩
      exact⟨pv,cv,by rw[HOn.out,HE.out];rfl,by rw[HOn.out];exact hh2.here,by rw[HOn.out];exact hcv,hbl.trans (bo _ (by omega) hbl.size)⟩
  · refine⟨⟨_,rfl⟩,.inr ⟨hX4.lp,?_⟩⟩
    have HX:=xQ hX4
    have HE:Hid (R=Bt.rowsErr s l):=HR1.out.trans (if_pos hre)
    have HOn:Hid (O=[]):=by show _=_;rw[HO.out,HE.out,if_neg hre]
    clear hX4 hre HR1 HO
    gi_wp2
    have hdf:(W4.putObj (w3.1.size+1) (.loop (rec .exhausted (some .ret)))).1[w3.1.size]?=some (.deferred (some [])):=(World.putObj_heap_other (by omega)).trans HX.out.dfr
    have hbl:=HX.out.below.trans (bo (l:=w3.1.size+1) (.loop (rec .exhausted (some .ret))) (by omega) HX.out.below.size)
    refine⟨by simp,.inl ⟨_,_,rfl,run_takeDeferred hdf,?_⟩⟩
    refine⟨_,bL rfl _ _ (w.1.size+1) (w.1.size+1+1) _ _ rfl (am ((World.putObj_heap_other (by omega)).trans ((World.putObj_heap_other (by omega)).trans HX.out.r1))) Tryz.underlying22 rfl (am ((World.putObj_heap_other (by omega)).trans ((World.putObj_heap_other (by omega)).trans HX.out.r2))) Tryz.underlying36,?_⟩
    exact⟨none,0,by rw[HOn.out,HE.out];rfl,by rw[HOn.out];exact .inl rfl,by rw[HOn.out];exact xX,hbl.trans (bo _ (by omega) hbl.size)⟩
end
section
open Go.RowKit
attribute [local go_sem] af
theorem uT(s:List Col)(p:OA)(c:Nat)(l:List (List V))(HR:RowsIn l)(hsh:(Bt.bytes l).length<=3)(her:Bt.err s l=0)(q:OA)(d:Nat)(w:World)(hS:dc w p c s)(hL:fJ w q d l):
  Calls Tryz.prog 13 #[.agg #[.slice p s.length c],.slice q l.length d] w (sO w ⟨0,0::Bt.bytes l⟩):=by
 obtain⟨W0,hW0⟩:∃W0,W0=w.alloc (.cells #[.slice p s.length c] 53):=⟨_,rfl⟩
 have hb0:Below w.1.size w W0:=by rw[hW0];exact xY
 have hJ:=wR s p c l HR q d W0 (hS.on hb0) (hL.on hb0)
 rw[her,show Bt.out s l=Bt.bytes l from if_pos her] at hJ
 obtain⟨O,hO⟩:∃O,O=Bt.bytes l:=⟨_,rfl⟩
 rw[<-hO] at hJ hsh ⊢
 have HJ:=xQ hJ
 have HB:=xQ hb0
 have HW:=xQ hW0
 clear hb0 hW0 hO hJ
 go_enter Tryz.func13,Tryz.ntmps13
 go_wp2_with fail
 rw[<-HW.out]
 refine HJ.out.mono ?_
 rintro e w1 ⟨q1,c1,rfl,hat,hc1,hb1⟩
 have hB1:=HB.out.trans (hb1.mono HB.out.size)
 have HB1:=xQ hB1
 have hs1:=hB1.size
 have HPk:=xQ (wD O q1 c1 w1 hsh hc1 hat)
 clear hb1 HJ hB1 hat
 go_wp2_with fail
 refine HPk.out.mono ?_
 rintro e w2 ⟨q2,m2,c2,rfl,hm2,hh2,hb2⟩
 subst hm2
 have HH:=xQ hh2
 have HB2:=xQ (HB1.out.trans (hb2.mono hs1))
 clear hh2 hb2
 go_wp2
 go_ret2
 exact⟨q2,_,c2,rfl,rfl,HH.out.lower hs1,HB2.out⟩
end
end Go.Proofs.YtceomhodhmcknaaGreatDoor
