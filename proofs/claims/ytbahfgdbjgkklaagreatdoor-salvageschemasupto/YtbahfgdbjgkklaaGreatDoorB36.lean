import Derived.RangeFuncNested
import Derived.RangeFuncBound
import Derived.Shelf.RegionOpen
import Derived.OwnWalkIn
import Derived.LoopNIn
import Derived.LoopIn
import Derived.Test.YtbahfgdbjgkklaaGreatDoorB27
set_option maxRecDepth 100000
set_option maxHeartbeats 2000000
namespace Go.Proofs.YtbahfgdbjgkklaaGreatDoor
variable{b c l n:Nat}{W w w':World}{v:Value}{a:Act}{T:TypeId}{P:Program}{assign body:Code}
section
open Go.RowKit Go.Shelf
abbrev ji(fn:FuncId)(tmps:AV)(ps:Array Tmp)(assign body:Code)(D:Nat)(st:LoopState)(pe:Option Code):Loop:={ state:=st,pending:=pe,fn:=fn,tmps:=tmps,params:=ps,assign:=assign,body:=body,defers:=D }
def xu(l:Nat)(L:LoopState->Option Code->Loop)(R:Bool->World->Prop):Exit->Act->World->Prop
 |.normal,_,W=>W.1[l]?=some (.loop (L .busy none))∧R true (W.putObj l (.loop (L .ready none)))
 |.ret,_,W=>W.1[l]?=some (.loop (L .busy none))∧R false (W.putObj l (.loop (L .done (some .ret))))
 |_,_,_=>False
theorem fR{m:Nat}{z:Nat}{fn:FuncId}{tmps:AV}{ps:Array Tmp}{args:AV}{R:Bool->World->Prop}(K:W.1[l]?=some (.loop (ji fn tmps ps assign body z .ready none)))(M:args.size=ps.size)(h:assign.wpIn (Fence.wide.inRound l) m P (Exit.then (fun E D=>D.1[l]?=some (.loop (ji fn tmps ps assign body z .ready none)) ∧
    body.wpIn (Fence.wide.inRound l) m P (xu l (ji fn tmps ps assign body z) R) E (D.putObj l (.loop (ji fn tmps ps assign body z .busy none)))) (fun _ _ _=>False))
   { tmps:=(ps.zip args).foldl (fun t (p,v)=>t.setIfInBounds p v) tmps,defers:=[] } W):
  YieldAt Fence.wide m P l args W fun e I=>∃b,e=.returned (.bool b)∧R b I:=by
 refine⟨_,_,_,_,run_yield K M,roundIn_of_wpIn trivial (wpIn_mono h ?_)⟩;intro e E D y;cases e with
 |normal=>
  obtain⟨L,hb⟩:=y;refine⟨_,run_beginRound L rfl,wpIn_mono hb ?_⟩;intro J Q O o;cases J with
  |normal=>exact⟨_,_,run_endRound none o.1,true,rfl,o.2⟩
  |ret=>exact⟨_,_,run_endRound (some .ret) o.1,false,rfl,o.2⟩
  |exit i=>exact o.elim
  |goto t=>exact o.elim
  |panic c=>exact o.elim
  |outgrown=>exact o.elim
 |exit i=>exact y.elim
 |goto t=>exact y.elim
 |ret=>exact y.elim
 |panic c=>exact y.elim
 |outgrown=>exact y.elim
theorem ly{g:Operand}{ps:Array Tmp}{z:Exit->Act->World->Prop}{gf:FuncId}{y:AV}(M:a.eval g=.func (.func gf) #[] y)(K:∀args w,(callFunc gf args).run P w=.ok (.enter gf args) w)(h:∀fn,Calls P gf (#[.func (.yield (w.1.size+1)) #[] #[]]++y) ((w.alloc (.deferred (some []))).alloc (.loop (ji fn a.tmps ps assign body w.1.size .ready none))) fun e W=>(∃v,e=.returned v) ∧
      ((W.1[w.1.size+1]?=some (.loop (ji fn a.tmps ps assign body w.1.size .ready none))∧z .normal { a with defers:={ target:=.collected w.1.size,args:=#[] }::a.defers } (W.putObj (w.1.size+1) (.loop (ji fn a.tmps ps assign body w.1.size .exhausted none)))) ∨
       (W.1[w.1.size+1]?=some (.loop (ji fn a.tmps ps assign body w.1.size .done (some .ret)))∧Code.ret.wpIn Fence.wide n P z { a with defers:={ target:=.collected w.1.size,args:=#[] }::a.defers } (W.putObj (w.1.size+1) (.loop (ji fn a.tmps ps assign body w.1.size .exhausted (some .ret))))))):
    (Code.rangeFunc g ps assign body).wpIn Fence.wide n P z a w:=by
  refine wpIn_rangeFunc ?_;intro fn _;obtain⟨o,J⟩:∃o,o=(w.alloc (.deferred (some []))).alloc (.loop (ji fn a.tmps ps assign body w.1.size .ready none)):=⟨_,rfl⟩;have I:=h fn;rw[<-J] at I;refine⟨w.1.size+1,[{ target:=.collected w.1.size,args:=#[] }],o,{ target:=.fn (.func gf) y,args:=#[.func (.yield (w.1.size+1)) #[] #[]] },o,gf,#[.func (.yield (w.1.size+1)) #[] #[]]++y,o,by rw[J];exact run_enterLoop_outer _ _ _ _ _,?_,fun _ _=>trivial,?_,fun L=>by simp[Fence.wide] at L,?_⟩
  · simp only[resolve,M];simp[go_sem]
  · simp[invoke,go_sem,K]
  · refine(callsIn_wide.2 I).mono ?_;rintro e W ⟨⟨v,rfl⟩,⟨D,E⟩ | ⟨D,E⟩⟩
    · exact⟨none,_,run_endLoop D (by simp),E⟩
    · exact⟨some .ret,_,run_endLoop D (by simp),E⟩
theorem dP{F:Fence}{D:Array Oper}{rest:List Oper}{o:Oper}{z:Exit->Act->World->Prop}{s x:Operand}{t E:TypeId}{I J v':Value}(h:cY P t E o.type I J w v' w')(O:o.guard=none)(y:o.op=Op.call { callee:=Callee.builtin Builtin.append,args:=#[s,x],argTypes:=#[t,E] })(S:a.eval s=I)(U:a.eval x=J)(K:wpListIn F n P D z rest (a.put o.dst v') w'):wpListIn F n P D z (o::rest) a w:=by
 refine wpListIn_plain O fun V L=>?_;have Q:=h.run;unfold Oper.wpIn;refine⟨?_,?_⟩
 ·simp[Oper.about,y,resolve,Target.leads,Sem.run_pure]
 ·rw[Oper.semAt_plain F _ _ (by rw[y];intro c M;cases M)];simp[execOp,y,resolve,invoke,builtin,S,U,Q,Result.andThen];exact L _ _ K
theorem oW{F:Fence}{B:Nat}{xs l:L8}{p:OA}(S:Has w B v xs)(h:At w p l)(M:xs.length+l.length<=140737488355328)(I:B<=w.1.size){D:Array Oper}{rest:List Oper}{o:Oper}{a:Act}{z:Exit->Act->World->Prop}{E x:Operand}(Y:o.type=22)(L:o.guard=none)(Q:o.op=Op.call { callee:=Callee.builtin Builtin.append,args:=#[E,x],argTypes:=#[22,22] })(X:a.eval E=v)(Z:a.eval x=.slice p l.length c)(J:∀y q cap W,Hid (y=xs++l)->Has W B (.slice q y.length cap) y->Aside (fun k=>v.ownBlock=some k) w W->(∀k,(Value.slice q y.length cap).ownBlock=some k->v.ownBlock=some k∨w.1.size<=k)->wpListIn F n Tryz.prog D z rest (a.put o.dst (.slice q y.length cap)) W):
  wpListIn F n Tryz.prog D z (o::rest) a w:=by
 obtain⟨q,cap,W,U,O,K,-,hb⟩:=eL B v xs l p c w S h M I;have V:cY Tryz.prog 22 22 o.type v (.slice p l.length c) w (.slice q (xs++l).length cap) W:=by rw[Y];exact U
 exact dP V L Q X Z (J _ q cap W (gQq rfl) O K hb)
theorem dU(y:Obj):Aside (fun k=>k=l) W (W.putObj l y):=⟨rfl,rfl,rfl,by simp,fun k _ o=>World.putObj_heap_other o⟩
theorem bF(o:Obj)(h:n<=l)(z:n<=W.1.size):Below n W (W.putObj l o):=(dU o).below z (fun k D y=>by subst y;omega)
theorem At.turn{o:Nat}{r:Loop}{p:OA}{l:L8}(h:At W p l)(K:W.1[o]?=some (.loop r))(M:Obj):At (W.putObj o M) p l:=by
 rcases h with rfl | ⟨b,O,rfl,E,y⟩
 ·exact .inl rfl
 ·by_cases z:l=[]
  ·exact .inl z
  ·have L:b≠o:=fun I=>by
    subst I;have D:0<l.length:=List.length_pos_iff.2 z;have:=y 0 D;simp[World.cell?,K] at this
   refine .inr ⟨b,O,rfl,by simpa using E,fun j J=>?_⟩;rw[World.cell?_of_block (w:=W) (World.putObj_heap_other L)];exact y j J
end
section
open Go.RowKit Go.Shelf
attribute [local go_sem] af Oper.semAt_some
theorem ao(h:w.1[b]?=some (.cells #[v] T (0,0))):w.cell? ⟨b,0,none⟩=some v:=by simp[World.cell?,h]
theorem aN(h:w.1[b]?=some (.cells #[v] T (0,0))):w.frozen? ⟨b,0,none⟩=false:=by simp[World.frozen?,h]
structure fw(w:World)(p:OA)(c:Nat)(l:List (List V)):Prop where
 len:l.length*24<=140737488351232
 cap:l.length<=c
 rows:∀j (hj:j<l.length),∃b o q d,p=some ⟨b,o,none⟩∧b<w.1.size∧w.cell? ⟨b,o+j,none⟩=some (.slice q l[j].length d)∧fN w q d l[j]
theorem fw.on{p:OA}{l:List (List V)}(h:fw w p c l)(hb:Below w.1.size w w'):fw w' p c l :=
 ⟨h.len,h.cap,fun j D=>by
  obtain⟨b,E,q,d,o,I,y,z⟩:=h.rows j D
  exact⟨b,E,q,d,o,by have:=hb.size;omega,ae hb y,z.on hb⟩⟩
theorem sV(a0:∀(s:List Col) (p:OA) (c:Nat) (U:List V) (q:OA) (d:Nat) (w:World),bB w p c s->fN w q d U->Calls Tryz.prog 144 #[.agg #[.slice p s.length c],.agg #[.slice q U.length d]] w (Told w (Rw.err s U) (Rw.out s U)))(s:List Col)(p:OA)(c:Nat)(l:List (List V))(q:OA)(d:Nat)(bs bp:Nat)(Y:Nat)(y:Nat->World->Prop)(X:Nat->World->Prop)(W:World)(M:∀i W,y i W->bB W p c s∧fw W q d l∧W.1[bs]?=some (.cells #[.slice p s.length c] 29 (0,0))∧W.1[bp]?=some (.cells #[.slice q l.length d] 75 (0,0)))(a7:∀i W z,y i W->Below W.1.size W z->y i z)(L:y 0 W)(good:∀m i (h:i<l.length) W S cap,y i W->(∀j (h:j<l.length),j<i->Rw.err s l[j]=0)->Rw.err s l[i]=0->At W S (Rw.bytes l[i])->YieldAt Fence.wide m Tryz.prog Y #[.slice S (Rw.bytes l[i]).length cap,.int .i64 0] W fun e z=>∃b,e=.returned (.bool b)∧b=true∧y (i+1) z)(bad:∀m i (h:i<l.length) W S cap,y i W->Rw.err s l[i]≠0->YieldAt Fence.wide m Tryz.prog Y #[.slice S 0 cap,.int .i64 (Rw.err s l[i]:Nat)] W fun e z=>∃b,e=.returned (.bool b)∧b=false∧X (Rw.err s l[i]) z):
  Calls Tryz.prog 143 #[.func (.yield Y) #[] #[],.pointer (some ⟨bp,0,none⟩),.pointer (some ⟨bs,0,none⟩)] W fun e z=>(∃v,e=.returned v)∧((Bt.rowsErr s l=0∧y l.length z)∨(Bt.rowsErr s l≠0∧X (Bt.rowsErr s l) z)):=by
 have cg:=(M 0 W L).2.1.len;have b1:=gQq M;have b2:=gQq a7;have bN:=gQq L;have bX:=gQq good;have bO:=gQq bad;have bT:=gQq a0;have cb:=ao (M 0 W L).2.2.2;clear M a7 L good bad a0;refine(callsIn_wide (n:=3)).1 ?_;refine callsIn_of_wp Tryz.func143 rfl trivial ?_ rfl;simp only[Tryz.ntmps143,List.size_toArray,List.length_cons,List.length_nil,Nat.reduceAdd,Nat.reduceSub,Array.replicate_succ,Array.replicate_zero,List.push_toArray,List.append_toArray,List.nil_append,List.cons_append]
 gi_wp2
 gi_loopw [10] (fun aj wr=>∃i:Nat,i<=l.length∧aj=.int .i64 i∧Hid ((∀j (h:j<l.length),j<i->Rw.err s l[j]=0)∧y i wr)) (fun aj _=>l.length-(intOf aj).toNat)
 case atStart=>exact⟨0,by omega,rfl,fun j _ h=>by omega,bN.out⟩
 case round=>
  clear cb;obtain⟨i,ce,rfl,D⟩:=hrel;obtain⟨bb,a8,bk,b9⟩:=b1.out i wr D.out.2;by_cases Q:i<l.length
  ·have ci:(i:Int)<(l.length:Int):=(by omega);obtain⟨b,o,qr,a4,rfl,cd,c0,a9⟩:=a8.rows i Q;have b3:=gQq a9;have b4:=gQq bb;obtain⟨ak,ah⟩:∃ak,ak=wr.alloc (.cells #[.slice qr l[i].length a4] 82):=⟨_,rfl⟩;have bi:Below wr.1.size wr ak:=(by rw[ah];exact gQy);have cj:=fun o=>ae ((Below.refl wr.1.size wr).alloc gQx o) (ao bk);have K:=gQq bi;have HWA:=gQq ah;clear ah bi a9 bb a8 bk b9
   gi_wp2
   refine⟨trivial,?_⟩;refine(callsIn_wide.2 (bT.out s p c l[i] qr a4 _ (b4.out.on ?_) (b3.out.on ?_))).mono ?_
   ·rw[<-HWA.out];exact K.out
   ·rw[<-HWA.out];exact K.out
   rintro e w1 ⟨br,c1,rfl,I,bj,be⟩;rw[<-HWA.out] at be;have a1:=gQq (b2.out i wr w1 D.out.2 (K.out.trans (be.mono K.out.size)));obtain⟨a5,ab⟩:∃a5,a5=Rw.err s l[i]:=⟨_,rfl⟩;by_cases he:Rw.err s l[i]=0
   ·have J:Rw.out s l[i]=Rw.bytes l[i]:=(by unfold Rw.out;rw[if_pos he]);rw[J] at I bj ⊢;rw[he];obtain⟨fn,tmps,assign,body,ca,Z⟩:=bX.out 2 i Q w1 br c1 a1.out D.out.1 he I;have E:=gQq he;clear J I he ab
    gi_wp2
    refine Z.mono ?_;rintro e cc ⟨b6,rfl,rfl,a6⟩;have b0:=gQq a6;clear a6
    gi_wp2
    go_roundw;case rel=>
     refine⟨i+1,by omega,by go_num,fun j O cf=>?_,b0.out⟩;by_cases b8:j=i
     ·subst b8;exact E.out
     ·exact D.out.1 j O (by omega)
    case measure=>simp[intOf];omega
   ·have J:Rw.out s l[i]=[]:=(by unfold Rw.out;rw[if_neg he]);rw[J] at I bj ⊢;have bn:=bO.out 2 i Q w1 br c1 a1.out he;have E:=gQq (Bt.rowsErr_at i Q D.out.1 he);have a2:=gQq he;rw[<-ab] at bn he E a2 ⊢;obtain⟨fn,tmps,assign,body,ca,Z⟩:=bn;clear J I ab
    gi_wp2
    refine Z.mono ?_;rintro e cc ⟨b6,rfl,rfl,bc⟩;have b5:=gQq bc;clear bc
    gi_wp2
    refine bodyPost_ret (results_none rfl _ _ _) rfl ?_;exact⟨⟨_,rfl⟩,.inr ⟨by rw[E.out];exact a2.out,by rw[E.out];exact b5.out⟩⟩
  ·have b7:i=l.length:=(by omega);subst b7
   gi_wp2
   go_end0;exact⟨⟨_,rfl⟩,.inl ⟨Bt.rowsErr_all (fun j O=>D.out.1 j O O),D.out.2⟩⟩
end
section
open Go.RowKit
attribute [local go_sem] af
structure RowsIn:Prop where
 encode:∀(s:List Col) (p:OA) (c:Nat) (vs:List V) (q:OA) (d:Nat) (w:World),bB w p c s->fN w q d vs->Calls Tryz.prog 144 #[.agg #[.slice p s.length c],.agg #[.slice q vs.length d]] w (Told w (Rw.err s vs) (Rw.out s vs))
 decode:∀(s:List Col) (p:OA) (c:Nat) (l:L8) (q:OA) (d:Nat) (a:Int) (w:World),bB w p c s->l.length<=140737488351232->l.length<=d->At w q l->-9223372036854775808<=a->a<=9223372036854775807->Calls Tryz.prog 89 #[.agg #[.slice p s.length c],.slice q l.length d,.int .i64 a] w (xz w (Rw.read s l a))
theorem mO(S:RowsIn)(s:List Col)(p:OA)(c:Nat)(w:World)(V:bB w p c s):
  Calls Tryz.prog 86 #[.agg #[.slice p s.length c]] w fun e w'=>e=.returned (.int .i64 (Sch.err s:Nat))∧Below w.1.size w w':=by
 obtain⟨y,I⟩:∃y,y=w.alloc (.cells #[.slice p s.length c] 29):=⟨_,rfl⟩;have J:Below w.1.size w y:=by rw[I];exact gQy
 have E:=S.decode s p c [] none 0 (-1) y (V.on J) (by simp) (by simp) (.inl rfl) (by omega) (by omega);rw[Bt.read_none] at E;obtain⟨z,M⟩:∃z,z=Sch.err s:=⟨_,rfl⟩;have X:=Bt.schErr_ne s;rw[<-M] at E X ⊢;have O:=gQq E;have K:=gQq J;have U:=gQq I;clear E J I M;go_enter Tryz.func86,Tryz.ntmps86;go_wp2_with fail;rw[<-U.out];refine O.out.mono ?_;rintro e w1 ⟨rfl,L⟩;have o:=gQq (K.out.trans (L.mono K.out.size));clear L;by_cases D:z=0
 ·rw[if_pos D];have Q:=gQq D;clear D;go_wp2;go_ret;exact⟨by rw[Q.out];rfl,o.out.alloc o.out.size _⟩
 ·rw[if_neg D];have Y:((z:Int) != 30)=true:=aQ (by omega);go_wp2;go_ret;exact⟨rfl,o.out.alloc o.out.size _⟩
theorem ry(Z:RowsIn)(s:List Col)(p:OA)(c:Nat)(n:Int)(w:World)(aj:bB w p c s):
  Calls Tryz.prog 51 #[.agg #[.slice p s.length c],.int .i64 n] w fun e w'=>e=.returned (.int .i64 (Bt.numErr s n:Nat))∧Below w.1.size w w':=by
 obtain⟨K,M⟩:∃K,K=w.alloc (.cells #[.slice p s.length c] 29):=⟨_,rfl⟩;have O:Below w.1.size w K:=by rw[M];exact gQy
 have S:=gQq (mO Z s p c K (aj.on O));obtain⟨R,z⟩:∃R,R=Bt.numErr s n:=⟨_,rfl⟩;rw[<-z];unfold Bt.numErr at z;obtain⟨y,Y⟩:∃y,y=Sch.err s:=⟨_,rfl⟩;rw[<-Y] at S z;have Q:=gQq O;have ab:=gQq M;have J:=gQq z;clear O M Y z;go_enter Tryz.func51,Tryz.ntmps51;go_wp2_with fail;rw[<-ab.out];refine S.out.mono ?_;rintro e w1 ⟨rfl,X⟩;have D:=gQq (Q.out.trans (X.mono Q.out.size));clear X;by_cases L:y≠0
 ·have ah:((y:Int) != 0)=true:=aQ (by omega);have o:Hid (R=y):=J.out.trans (if_pos L);clear J L;go_wp2;go_ret;rw[o.out];exact⟨rfl,D.out⟩
 have ah:((y:Int) != 0)=false:=bo (by omega);have E:=gQq (J.out.trans (if_neg L));clear J L;by_cases U:n<1
 ·have o:Hid (R=4):=E.out.trans (if_pos U);clear E;go_wp2;go_ret;exact⟨by rw[o.out];rfl,D.out⟩
 have I:=gQq (E.out.trans (if_neg U));clear E;by_cases V:64<n
 ·have o:Hid (R=3):=I.out.trans (if_pos V);clear I;go_wp2;go_ret;exact⟨by rw[o.out];rfl,D.out⟩
 ·have o:Hid (R=0):=I.out.trans (if_neg V);clear I;go_wp2;go_ret;exact⟨by rw[o.out];rfl,D.out⟩
end
end Go.Proofs.YtbahfgdbjgkklaaGreatDoor
