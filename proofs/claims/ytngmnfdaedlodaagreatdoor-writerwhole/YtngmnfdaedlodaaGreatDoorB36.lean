import Derived.RangeFuncNested
import Derived.RangeFuncBound
import Derived.Shelf.RegionOpen
import Derived.OwnWalkIn
import Derived.LoopNIn
import Derived.LoopIn
import Derived.Test.YtngmnfdaedlodaaGreatDoorB27
set_option maxRecDepth 100000
set_option maxHeartbeats 2000000
namespace Go.Proofs.YtngmnfdaedlodaaGreatDoor
open Go.Proofs.Tryz
open Option renaming some->I,none->Y
open Go.Value renaming slice->U
open Go renaming World->O
open Go.Proofs.Tryz renaming prog->C
open Go.Obj renaming cells->N
open Go.Ending renaming returned->wv
variable{c l n:Nat}{W w w':O}{v:Value}{p:OA}{a:Act}{T:TypeId}{P:Program}{assign body:Code}
section
open Go.RowKit Go.Shelf
abbrev jp(fn:FuncId)(tmps:AV)(ps:Array Tmp)(assign body:Code)(D:Nat)(st:LoopState)(pe:Option Code):Loop:={ state:=st,pending:=pe,fn:=fn,tmps:=tmps,params:=ps,assign:=assign,body:=body,defers:=D }
def wX(l:Nat)(L:LoopState->Option Code->Loop)(R:Bool->O->Prop):Exit->Act->O->Prop
 |.normal,_,W=>W.1[l]?=I (.loop (L .busy Y))∧R true (W.putObj l (.loop (L .ready Y)))
 |.ret,_,W=>W.1[l]?=I (.loop (L .busy Y))∧R false (W.putObj l (.loop (L .done (I .ret))))
 |_,_,_=>False
theorem kB{m:Nat}{A:Nat}{fn:FuncId}{tmps:AV}{ps:Array Tmp}{args:AV}{R:Bool->O->Prop}(L:W.1[l]?=I (.loop (jp fn tmps ps assign body A .ready Y)))(Q:args.size=ps.size)(h:assign.wpIn (Fence.wide.inRound l) m P (Exit.then (fun E D=>D.1[l]?=I (.loop (jp fn tmps ps assign body A .ready Y)) ∧
    body.wpIn (Fence.wide.inRound l) m P (wX l (jp fn tmps ps assign body A) R) E (D.putObj l (.loop (jp fn tmps ps assign body A .busy Y)))) (fun _ _ _=>False))
   { tmps:=(ps.zip args).foldl (fun t (p,v)=>t.setIfInBounds p v) tmps,defers:=[] } W):
  YieldAt Fence.wide m P l args W fun e J=>∃b,e=wv (.bool b)∧R b J:=by
 refine⟨_,_,_,_,run_yield L Q,roundIn_of_wpIn trivial (wpIn_mono h ?_)⟩;intro e E D y;cases e with
 |normal=>
  obtain⟨M,hb⟩:=y;refine⟨_,run_beginRound M rfl,wpIn_mono hb ?_⟩;intro K V S o;cases K with
  |normal=>exact⟨_,_,run_endRound Y o.1,true,rfl,o.2⟩
  |ret=>exact⟨_,_,run_endRound (I .ret) o.1,false,rfl,o.2⟩
  |exit i=>exact o.elim
  |goto t=>exact o.elim
  |panic c=>exact o.elim
  |outgrown=>exact o.elim
 |exit i=>exact y.elim
 |goto t=>exact y.elim
 |ret=>exact y.elim
 |panic c=>exact y.elim
 |outgrown=>exact y.elim
theorem rh{g:Operand}{ps:Array Tmp}{A:Exit->Act->O->Prop}{gf:FuncId}{y:AV}(Q:a.eval g=.func (.func gf) #[] y)(L:∀args w,(callFunc gf args).run P w=.ok (.enter gf args) w)(h:∀fn,Calls P gf (#[.func (.yield (w.1.size+1)) #[] #[]]++y) ((w.alloc (.deferred (I []))).alloc (.loop (jp fn a.tmps ps assign body w.1.size .ready Y))) fun e W=>(∃v,e=wv v) ∧
      ((W.1[w.1.size+1]?=I (.loop (jp fn a.tmps ps assign body w.1.size .ready Y))∧A .normal { a with defers:={ target:=.collected w.1.size,args:=#[] }::a.defers } (W.putObj (w.1.size+1) (.loop (jp fn a.tmps ps assign body w.1.size .exhausted Y)))) ∨
       (W.1[w.1.size+1]?=I (.loop (jp fn a.tmps ps assign body w.1.size .done (I .ret)))∧Code.ret.wpIn Fence.wide n P A { a with defers:={ target:=.collected w.1.size,args:=#[] }::a.defers } (W.putObj (w.1.size+1) (.loop (jp fn a.tmps ps assign body w.1.size .exhausted (I .ret))))))):
    (Code.rangeFunc g ps assign body).wpIn Fence.wide n P A a w:=by
  refine wpIn_rangeFunc ?_;intro fn _;obtain⟨o,K⟩:∃o,o=(w.alloc (.deferred (I []))).alloc (.loop (jp fn a.tmps ps assign body w.1.size .ready Y)):=⟨_,rfl⟩;have J:=h fn;rw[<-K] at J;refine⟨w.1.size+1,[{ target:=.collected w.1.size,args:=#[] }],o,{ target:=.fn (.func gf) y,args:=#[.func (.yield (w.1.size+1)) #[] #[]] },o,gf,#[.func (.yield (w.1.size+1)) #[] #[]]++y,o,by rw[K];exact run_enterLoop_outer _ _ _ _ _,?_,fun _ _=>trivial,?_,fun M=>by simp[Fence.wide] at M,?_⟩
  · simp only[resolve,Q];simp[go_sem]
  · simp[invoke,go_sem,L]
  · refine(callsIn_wide.2 J).mono ?_;rintro e W ⟨⟨v,rfl⟩,⟨D,E⟩ | ⟨D,E⟩⟩
    · exact⟨Y,_,run_endLoop D (by simp),E⟩
    · exact⟨I .ret,_,run_endLoop D (by simp),E⟩
theorem fB{F:Fence}{D:Array Oper}{rest:List Oper}{o:Oper}{A:Exit->Act->O->Prop}{s x:Operand}{t E:TypeId}{J vx v':Value}(h:cA P t E o.type J vx w v' w')(S:o.guard=Y)(y:o.op=Op.call { callee:=Callee.builtin Builtin.append,args:=#[s,x],argTypes:=#[t,E] })(X:a.eval s=J)(Z:a.eval x=vx)(L:wpListIn F n P D A rest (a.put o.dst v') w'):wpListIn F n P D A (o::rest) a w:=by
 refine wpListIn_plain S fun K M=>?_;have V:=h.run;unfold Oper.wpIn;refine⟨?_,?_⟩
 ·simp[Oper.about,y,resolve,Target.leads,Sem.run_pure]
 ·rw[Oper.semAt_plain F _ _ (by rw[y];intro c Q;cases Q)];simp[execOp,y,resolve,invoke,builtin,X,Z,V,Result.andThen];exact M _ _ L
theorem oa{F:Fence}{B:Nat}{xs l:L8}(X:Has w B v xs)(h:At w p l)(Q:xs.length+l.length<=140737488355328)(J:B<=w.1.size){D:Array Oper}{rest:List Oper}{o:Oper}{a:Act}{A:Exit->Act->O->Prop}{E x:Operand}(ai:o.type=40)(M:o.guard=Y)(V:o.op=Op.call { callee:=Callee.builtin Builtin.append,args:=#[E,x],argTypes:=#[40,40] })(ah:a.eval E=v)(aj:a.eval x=U p l.length c)(K:∀y q cap W,Hid (y=xs++l)->Has W B (U q y.length cap) y->Aside (fun k=>v.ownBlock=I k) w W->(∀k,(U q y.length cap).ownBlock=I k->v.ownBlock=I k∨w.1.size<=k)->wpListIn F n C D A rest (a.put o.dst (U q y.length cap)) W):
  wpListIn F n C D A (o::rest) a w:=by
 obtain⟨q,cap,W,Z,S,L,-,hb⟩:=eW B v xs l p c w X h Q J;have ab:cA C 40 40 o.type v (U p l.length c) w (U q (xs++l).length cap) W:=by rw[ai];exact Z
 exact fB ab M V ah aj (K _ q cap W (gQq rfl) S L hb)
theorem fz(y:Obj):Aside (fun k=>k=l) W (W.putObj l y):=⟨rfl,rfl,rfl,by simp,fun k _ o=>World.putObj_heap_other o⟩
theorem dc(o:Obj)(h:n<=l)(A:n<=W.1.size):Below n W (W.putObj l o):=(fz o).below A (fun k D y=>by subst y;omega)
theorem At.turn{o:Nat}{r:Loop}{l:L8}(h:At W p l)(L:W.1[o]?=I (.loop r))(Q:Obj):At (W.putObj o Q) p l:=by
 rcases h with rfl | ⟨b,S,rfl,E,y⟩
 ·exact .inl rfl
 ·by_cases A:l=[]
  ·exact .inl A
  ·have M:b≠o:=fun J=>by
    subst J;have D:0<l.length:=List.length_pos_iff.2 A;have:=y 0 D;simp[World.cell?,L] at this
   refine .inr ⟨b,S,rfl,by simpa using E,fun j K=>?_⟩;rw[World.cell?_of_block (w:=W) (World.putObj_heap_other M)];exact y j K
end
section
open Go.RowKit Go.Shelf
attribute [local go_sem] al Oper.semAt_some
theorem az{b:Nat}(h:w.1[b]?=I (N #[v] T (0,0))):w.cell? ⟨b,0,Y⟩=I v:=by simp[World.cell?,h]
theorem cG{b:Nat}(h:w.1[b]?=I (N #[v] T (0,0))):w.frozen? ⟨b,0,Y⟩=false:=by simp[World.frozen?,h]
structure cQ(w:O)(p:OA)(c:Nat)(l:List (List V)):Prop where
 len:l.length*24<=140737488351232
 cap:l.length<=c
 rows:∀j (hj:j<l.length),∃b o q d,p=I ⟨b,o,Y⟩∧b<w.1.size∧w.cell? ⟨b,o+j,Y⟩=I (U q l[j].length d)∧dN w q d l[j]
theorem cQ.on{l:List (List V)}(h:cQ w p c l)(hb:Below w.1.size w w'):cQ w' p c l :=
 ⟨h.len,h.cap,fun j D=>by
  obtain⟨b,E,q,d,o,J,y,A⟩:=h.rows j D
  exact⟨b,E,q,d,o,by have:=hb.size;omega,ae hb y,A.on hb⟩⟩
theorem su(a2:∀(s:List Col) (p:OA) (c:Nat) (ab:List V) (q:OA) (d:Nat) (w:O),ef w p c s->dN w q d ab->Calls C 137 #[.agg #[U p s.length c],.agg #[U q ab.length d]] w (Told w (Rw.err s ab) (Rw.out s ab)))(s:List Col)(p:OA)(c:Nat)(l:List (List V))(q:OA)(d:Nat)(bN bq:Nat)(L:Nat)(y:Nat->O->Prop)(X:Nat->O->Prop)(W:O)(Q:∀i W,y i W->ef W p c s∧cQ W q d l∧W.1[bN]?=I (N #[U p s.length c] 35 (0,0))∧W.1[bq]?=I (N #[U q l.length d] 36 (0,0)))(a9:∀i W A,y i W->Below W.1.size W A->y i A)(M:y 0 W)(good:∀m i (h:i<l.length) W Z cap,y i W->(∀j (h:j<l.length),j<i->Rw.err s l[j]=0)->Rw.err s l[i]=0->At W Z (Rw.bytes l[i])->YieldAt Fence.wide m C L #[U Z (Rw.bytes l[i]).length cap,.int .i64 0] W fun e A=>∃b,e=wv (.bool b)∧b=true∧y (i+1) A)(bad:∀m i (h:i<l.length) W Z cap,y i W->Rw.err s l[i]≠0->YieldAt Fence.wide m C L #[U Z 0 cap,.int .i64 (Rw.err s l[i]:Nat)] W fun e A=>∃b,e=wv (.bool b)∧b=false∧X (Rw.err s l[i]) A):
  Calls C 136 #[.func (.yield L) #[] #[],.pointer (I ⟨bq,0,Y⟩),.pointer (I ⟨bN,0,Y⟩)] W fun e A=>(∃v,e=wv v)∧((Bt.rowsErr s l=0∧y l.length A)∨(Bt.rowsErr s l≠0∧X (Bt.rowsErr s l) A)):=by
 have co:=(Q 0 W M).2.1.len;have b2:=gQq Q;have b3:=gQq a9;have bO:=gQq M;have b0:=gQq good;have bT:=gQq bad;have bX:=gQq a2;have cd:=az (Q 0 W M).2.2.2;clear Q a9 M good bad a2;refine(callsIn_wide (n:=3)).1 ?_;refine callsIn_of_wp func136 rfl trivial ?_ rfl;simp only[ntmps136,List.size_toArray,AI,List.length_nil,Nat.reduceAdd,Nat.reduceSub,Array.replicate_succ,Array.replicate_zero,List.push_toArray,List.append_toArray,List.nil_append,List.cons_append]
 gi_wp2
 gi_loopw [10] (fun a0 wr=>∃i:Nat,i<=l.length∧a0=.int .i64 i∧Hid ((∀j (h:j<l.length),j<i->Rw.err s l[j]=0)∧y i wr)) (fun a0 _=>l.length-(intOf a0).toNat)
 case atStart=>exact⟨0,by omega,rfl,fun j _ h=>by omega,bO.out⟩
 case round=>
  clear cd;obtain⟨i,ck,rfl,D⟩:=hrel;obtain⟨be,bb,bn,cb⟩:=b2.out i wr D.out.2;by_cases hlt:i<l.length
  ·have cp:(i:Int)<(l.length:Int):=(by omega);obtain⟨b,o,qr,a6,rfl,cj,c0,bc⟩:=bb.rows i hlt;have b4:=gQq bc;have b5:=gQq be;obtain⟨a1,aw⟩:∃a1,a1=wr.alloc (N #[U qr l[i].length a6] 64):=⟨_,rfl⟩;have bk:Below wr.1.size wr a1:=(by rw[aw];exact gQy);have cq:=fun o=>ae ((Below.refl wr.1.size wr).alloc gQx o) (az bn);have HBa:=gQq bk;have ah:=gQq aw;clear aw bk bc be bb bn cb
   gi_wp2
   refine⟨trivial,?_⟩;refine(callsIn_wide.2 (bX.out s p c l[i] qr a6 _ (b5.out.on ?_) (b4.out.on ?_))).mono ?_
   ·rw[<-ah.out];exact HBa.out
   ·rw[<-ah.out];exact HBa.out
   rintro e w1 ⟨bv,c1,rfl,J,bl,bj⟩;rw[<-ah.out] at bj;have a3:=gQq (b3.out i wr w1 D.out.2 (HBa.out.trans (bj.mono HBa.out.size)));obtain⟨a7,ak⟩:∃a7,a7=Rw.err s l[i]:=⟨_,rfl⟩;by_cases he:Rw.err s l[i]=0
   ·have K:Rw.out s l[i]=Rw.bytes l[i]:=(by unfold Rw.out;rw[AG he]);rw[K] at J bl ⊢;rw[he];obtain⟨fn,tmps,assign,body,cc,aj⟩:=b0.out 2 i hlt w1 bv c1 a3.out D.out.1 he J;have E:=gQq he;clear K J he ak
    gi_wp2
    refine aj.mono ?_;rintro e ci ⟨b7,rfl,rfl,a8⟩;have b1:=gQq a8;clear a8
    gi_wp2
    go_roundw;case rel=>
     refine⟨i+1,by omega,by go_num,fun j S cn=>?_,b1.out⟩;by_cases b9:j=i
     ·subst b9;exact E.out
     ·exact D.out.1 j S (by omega)
    case measure=>simp[intOf];omega
   ·have K:Rw.out s l[i]=[]:=(by unfold Rw.out;rw[AF he]);rw[K] at J bl ⊢;have bp:=bT.out 2 i hlt w1 bv c1 a3.out he;have E:=gQq (Bt.rowsErr_at i hlt D.out.1 he);have a4:=gQq he;rw[<-ak] at bp he E a4 ⊢;obtain⟨fn,tmps,assign,body,cc,aj⟩:=bp;clear K J ak
    gi_wp2
    refine aj.mono ?_;rintro e ci ⟨b7,rfl,rfl,bi⟩;have b6:=gQq bi;clear bi
    gi_wp2
    refine bodyPost_ret (results_none rfl _ _ _) rfl ?_;exact⟨⟨_,rfl⟩,.inr ⟨by rw[E.out];exact a4.out,by rw[E.out];exact b6.out⟩⟩
  ·have b8:i=l.length:=(by omega);subst b8
   gi_wp2
   go_end0;exact⟨⟨_,rfl⟩,.inl ⟨Bt.rowsErr_all (fun j S=>D.out.1 j S S),D.out.2⟩⟩
end
section
open Go.RowKit
attribute [local go_sem] al
structure RowsIn:Prop where
 encode:∀(s:List Col) (p:OA) (c:Nat) (vs:List V) (q:OA) (d:Nat) (w:O),ef w p c s->dN w q d vs->Calls C 137 #[.agg #[U p s.length c],.agg #[U q vs.length d]] w (Told w (Rw.err s vs) (Rw.out s vs))
 decode:∀(s:List Col) (p:OA) (c:Nat) (l:L8) (q:OA) (d:Nat) (a:Int) (w:O),ef w p c s->l.length<=140737488351232->l.length<=d->At w q l->-9223372036854775808<=a->a<=9223372036854775807->Calls C 167 #[.agg #[U p s.length c],U q l.length d,.int .i64 a] w (xi w (Rw.read s l a))
theorem lX(X:RowsIn)(s:List Col)(p:OA)(c:Nat)(w:O)(ab:ef w p c s):
  Calls C 135 #[.agg #[U p s.length c]] w fun e w'=>e=wv (.int .i64 (Sch.err s:Nat))∧Below w.1.size w w':=by
 obtain⟨y,J⟩:∃y,y=w.alloc (N #[U p s.length c] 35):=⟨_,rfl⟩;have K:Below w.1.size w y:=by rw[J];exact gQy
 have E:=X.decode s p c [] Y 0 (-1) y (ab.on K) (by simp) (by simp) (.inl rfl) (by omega) (by omega);rw[Bt.read_none] at E;obtain⟨A,Q⟩:∃A,A=Sch.err s:=⟨_,rfl⟩;have ah:=Bt.schErr_ne s;rw[<-Q] at E ah ⊢;have S:=gQq E;have L:=gQq K;have Z:=gQq J;clear E K J Q;go_enter func135,ntmps135;go_wp2_with fail;rw[<-Z.out];refine S.out.mono ?_;rintro e w1 ⟨rfl,M⟩;have o:=gQq (L.out.trans (M.mono L.out.size));clear M;by_cases D:A=0
 ·rw[AG D];have V:=gQq D;clear D;go_wp2;go_ret;exact⟨by rw[V.out];rfl,o.out.alloc o.out.size _⟩
 ·rw[AF D];have ai:((A:Int) != 30)=true:=cE (by omega);go_wp2;go_ret;exact⟨rfl,o.out.alloc o.out.size _⟩
theorem wV(aj:RowsIn)(s:List Col)(p:OA)(c:Nat)(n:Int)(w:O)(a0:ef w p c s):
  Calls C 106 #[.agg #[U p s.length c],.int .i64 n] w fun e w'=>e=wv (.int .i64 (Bt.numErr s n:Nat))∧Below w.1.size w w':=by
 obtain⟨L,Q⟩:∃L,L=w.alloc (N #[U p s.length c] 35):=⟨_,rfl⟩;have S:Below w.1.size w L:=by rw[Q];exact gQy
 have X:=gQq (lX aj s p c L (a0.on S));obtain⟨R,A⟩:∃R,R=Bt.numErr s n:=⟨_,rfl⟩;rw[<-A];unfold Bt.numErr at A;obtain⟨y,ai⟩:∃y,y=Sch.err s:=⟨_,rfl⟩;rw[<-ai] at X A;have V:=gQq S;have ak:=gQq Q;have K:=gQq A;clear S Q ai A;go_enter func106,ntmps106;go_wp2_with fail;rw[<-ak.out];refine X.out.mono ?_;rintro e w1 ⟨rfl,ah⟩;have D:=gQq (V.out.trans (ah.mono V.out.size));clear ah;by_cases M:y≠0
 ·have aw:((y:Int) != 0)=true:=cE (by omega);have o:Hid (R=y):=K.out.trans (AG M);clear K M;go_wp2;go_ret;rw[o.out];exact⟨rfl,D.out⟩
 have aw:((y:Int) != 0)=false:=ca (by omega);have E:=gQq (K.out.trans (AF M));clear K M;by_cases Z:n<1
 ·have o:Hid (R=4):=E.out.trans (AG Z);clear E;go_wp2;go_ret;exact⟨by rw[o.out];rfl,D.out⟩
 have J:=gQq (E.out.trans (AF Z));clear E;by_cases ab:64<n
 ·have o:Hid (R=3):=J.out.trans (AG ab);clear J;go_wp2;go_ret;exact⟨by rw[o.out];rfl,D.out⟩
 ·have o:Hid (R=0):=J.out.trans (AF ab);clear J;go_wp2;go_ret;exact⟨by rw[o.out];rfl,D.out⟩
end
end Go.Proofs.YtngmnfdaedlodaaGreatDoor
