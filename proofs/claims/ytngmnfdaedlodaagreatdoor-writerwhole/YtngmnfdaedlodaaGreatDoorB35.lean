import Derived.Test.YtngmnfdaedlodaaGreatDoorB34
set_option maxRecDepth 100000
set_option maxHeartbeats 4000000
namespace Go.Proofs.YtngmnfdaedlodaaGreatDoor
open Go.Proofs.Tryz
open Go.Value renaming int->I,slice->pv
open Go.IntKind renaming i64->U
open Option renaming none->Y,some->O
open Go.RowKit renaming Hid->N,Below->AC
open Go.Obj renaming cells->wx
open Go renaming World->AU
open Go.Proofs.Tryz renaming prog->AE
variable{A G a k most:Nat}{w w' wr:AU}{v:Value}{q:OA}{C:AV}{T:TypeId}{o:Obj}
section
open Go.RowKit
theorem db{b:Nat}{fr:Nat×Nat}(h:w.1[b]?=O (wx C T fr))(m:Nat):w.cell? ⟨b,m,Y⟩=C[m]?:=by
 simp[World.cell?,h]
theorem eH{b:Nat}(h:w.1[b]?=O (wx C T (0,0)))(m:Nat):w.frozen? ⟨b,m,Y⟩=false:=by
 simp[World.frozen?,h]
theorem nQ{b:Nat}(h:w.1[b]?=O o):b<w.1.size:=(Array.getElem?_eq_some_iff.1 h).1
theorem iu(w:AU)(o:Obj):(w.alloc o).1[w.1.size]?=O o:=by
 show(w.1.push o)[w.1.size]?=_;simp
theorem sG(w:AU)(o:Obj){k:Nat}(h:k<w.1.size):(w.alloc o).1[k]?=w.1[k]?:=by
 show(w.1.push o)[k]?=_;rw[Array.getElem?_push,AF (by omega)]
theorem kZ{b:Nat}(h:w.1[b]?=O (wx C T (0,0)))(m:Nat)(u:Value):(w.setCell ⟨b,m,Y⟩ u).1[b]?=O (wx (C.set! m u) T (0,0)):=by
 simp[World.setCell,Array.getElem?_modify,h]
theorem fK{b:Nat}(h:w.1[b]?=O o)(p:Addr)(u:Value)(y:b≠p.block):(w.setCell p u).1[b]?=O o:=(Below.heap_setCell _ _ _ _ y).trans h
theorem Am(w:AU)(y D:Obj):((w.alloc y).alloc D).1[w.1.size]?=O y∧((w.alloc y).alloc D).1[w.1.size+1]?=O D∧AC w.1.size w ((w.alloc y).alloc D)∧((w.alloc y).alloc D).1.size=w.1.size+2:=by
 refine⟨?_,?_,gQy.alloc (by simp) _,by simp⟩
 ·rw[sG _ _ (by simp)];exact iu w _
 ·have:=iu (w.alloc y) D;simpa using this
theorem tA{g:Nat}{x y:Value}(h:w.1[g]?=O (wx #[x,y] T (0,0)))(u v:Value):((w.setCell ⟨g,0,Y⟩ u).setCell ⟨g,1,Y⟩ v).1[g]?=O (wx #[u,v] T (0,0)):=by
 rw[kZ (kZ h 0 u) 1 v];rfl
theorem nU.keep{B:Nat}{b:L8}(h:nU w G A b)(hb:AC B w w')(D:G<B)(y:A<B):nU w' G A b:=⟨h.row.of_block (hb.block A y),h.var.of_block (hb.block G D)⟩
theorem ol(b:L8)(G A i:Nat)(w:AU)(hb:b.length<=2048)(E:i<b.length)(h:nU w G A b):
  Calls AE 171 #[I U i,.pointer (O ⟨G,0,Y⟩)] w fun e w'=>e=.returned (I U ((Blk.ahead b i:Nat)-1))∧w'=w:=by
 have c0:=h.var.cell (i:=0) (by omega);have c1:=h.row.cell E;have J:=Blk.ahead_le b i;obtain⟨y,D⟩:∃y,y=Blk.ahead b i:=⟨_,rfl⟩;rw[<-D] at c1 J ⊢;clear D h;go_enter func171,ntmps171;go_wp2;go_ret;exact⟨rfl,rfl⟩
theorem gA(p:OA)(len c a e:Nat)(h:a<=e)(D:e<=c)(w:AU):(Instr.slice 40 (pv p len c) (O (I U a)) (O (I U e)) Y).run AE w=.ok (pv (bI p a c) (e-a) (c-a)) w:=by
 have y:(sizeOf (Tryz.prog.elem 40)).run AE w=.ok 1 w:=by kernel_rfl
 rw[run_slice_lh w 40 p len c (by kernel_rfl) U U (a:Int) (e:Int) (by omega) (by omega) (by omega),y];simp[sliced,bI,Result.andThen]
theorem jN{b:L8}{m:Blk.Mt}(h:1024<a-k∨most<=m.size):Blk.chain b a most (k+1) (k+1) m=m:=by
 rw[Blk.chain,AG h]
theorem pK{b:L8}{m:Blk.Mt}(h:¬(1024<a-k∨most<=m.size)):Blk.chain b a most (k+1) (k+1) m=Blk.chain b a most (Blk.ahead b k) (Blk.ahead b k) (if m.size<Blk.alike (b.drop k) ((b.drop a).take most) then ⟨Blk.alike (b.drop k) ((b.drop a).take most),a-k⟩ else m):=by
 rw[Blk.chain,AF h];exact Blk.chain_more (Blk.ahead_le b k) gQx
structure pS(w wr:AU)(q:OA)(b:L8)(G A:Nat)(m:Blk.Mt):Prop where
 low:AC w.1.size w wr
 res:wr.1[w.1.size]?=O (wx #[I U 0,I U 0] 226 (0,0))
 best:wr.1[w.1.size+1]?=O (wx #[I U (m.size:Nat),I U (m.back:Nat)] 226 (0,0))
 look:nU wr G A b
 at_:At wr q b
theorem pS.put{w:AU}{b:L8}{m:Blk.Mt}(h:pS w wr q b G A m)(L:AtB w w.1.size q b)(J:G<w.1.size)(E:A<w.1.size)(y:Blk.Mt)(n:Nat):pS w (((wr.drewN n).setCell ⟨w.1.size+1,0,Y⟩ (I U (y.size:Nat))).setCell ⟨w.1.size+1,1,Y⟩ (I U (y.back:Nat))) q b G A y:=by
 have hd:AC w.1.size w (wr.drewN n):=below_drewN h.low n
 have D:AC w.1.size w (((wr.drewN n).setCell ⟨w.1.size+1,0,Y⟩ (I U (y.size:Nat))).setCell ⟨w.1.size+1,1,Y⟩ (I U (y.back:Nat))) :=
  (hd.setCell (p:=⟨w.1.size+1,0,Y⟩) (Nat.le_succ _) _).setCell (p:=⟨w.1.size+1,1,Y⟩) (Nat.le_succ _) _
 refine⟨D,?_,tA (w:=wr.drewN n) h.best _ _,?_,(L.keep D).at_⟩
 ·exact fK (fK (w:=wr.drewN n) h.res _ _ (by show w.1.size≠w.1.size+1;omega)) _ _ (by show w.1.size≠w.1.size+1;omega)
 ·have K:AC w.1.size wr (((wr.drewN n).setCell ⟨w.1.size+1,0,Y⟩ (I U (y.size:Nat))).setCell ⟨w.1.size+1,1,Y⟩ (I U (y.back:Nat))) :=
   ((below_drewN (Below.refl _ wr) n).setCell (p:=⟨w.1.size+1,0,Y⟩) (Nat.le_succ _) _).setCell (p:=⟨w.1.size+1,1,Y⟩) (Nat.le_succ _) _
  exact h.look.keep K J E
theorem tU(b:L8)(q:OA)(c G A a:Nat)(w:AU)(hb:b.length<=2048)(bN:b.length<=c)(cc:a<b.length)(a6:At w q b)(h:nU w G A b):
  Calls AE 139 #[pv q b.length c,I U a,.func (.func 171) #[] #[.pointer (O ⟨G,0,Y⟩)]] w fun e w'=>e=.returned (.agg #[I U ((Blk.longest b a).size:Nat),I U ((Blk.longest b a).back:Nat)])∧AC w.1.size w w':=by
 have bp:=h.var.lt;have bn:=h.row.lt;have b9:=gQq (a6.atB (Nat.le_refl w.1.size));obtain⟨most,b0⟩:∃most,most=min (b.length-a) 255:=⟨_,rfl⟩;have cx:min ((b.length:Int)-(a:Int)) 255=(most:Int):=by omega
 have cv:a+most<=b.length:=by omega
 have cw:most<=255:=by omega
 have be:N (Blk.longest b a=Blk.chain b a most (Blk.ahead b a) (Blk.ahead b a) ⟨0,0⟩):=by
  show _=_;rw[b0];exact Blk.chain_more (Blk.ahead_le b a) gQx
 obtain⟨ai,a1⟩:∃ai,ai=(w.alloc (wx #[I U 0,I U 0] 226)).alloc (wx #[I U 0,I U 0] 226):=⟨_,rfl⟩;have bi:N (pS w ai q b G A ⟨0,0⟩):=by
  obtain⟨bl,J,X,a0⟩:=Am w (wx #[I U 0,I U 0] 226) (wx #[I U 0,I U 0] 226);rw[<-a1] at bl J X a0;exact⟨X,bl,J,h.keep X bp bn,a6.on X⟩
 have bc:=gQq (ol b G A a ai hb cc bi.out.look);have bj:=gQq a1;clear a1 h a6;go_enter func139,ntmps139;have cj:=Blk.ahead_le b a;obtain⟨R,bq⟩:∃R,R=Blk.longest b a:=⟨_,rfl⟩;rw[<-bq] at be ⊢;clear bq b0;go_wp2_with fail;rw[<-bj.out];refine bc.out.mono ?_;rintro e w' ⟨rfl,K⟩;rw[K];clear K w' bc bj;go_wp2_with fail;go_loopw [9] (fun bb wr=>∃(g:Nat) (m:Blk.Mt),bb=I U ((g:Int)-1)∧g<=a∧m.size<=255∧m.back<=1024∧N (pS w wr q b G A m∧R=Blk.chain b a most g g m)) (fun bb _=>(intOf bb+1).toNat);case atStart=>exact⟨Blk.ahead b a,⟨0,0⟩,rfl,cj,by decide,by decide,bi.out,be.out⟩
 case round=>
  obtain⟨g,m,rfl,cs,b1,bX,D⟩:=hrel;obtain⟨y,E⟩:=m;dsimp only at b1 bX;have S:wr.1[w.1.size+1]?=O (wx #[I U (y:Nat),I U (E:Nat)] 226 (0,0)):=D.out.1.best;have V:=D.out.1.res;have c0:wr.cell? ⟨w.1.size+1,0,Y⟩=O (I U (y:Nat)):=db S 0;have c1:wr.cell? ⟨w.1.size+1,1,Y⟩=O (I U (E:Nat)):=db S 1;have cp:=eH S 0;have f1:=eH S 1;have c2:wr.cell? ⟨w.1.size,0,Y⟩=O (I U 0):=db V 0;have c3:wr.cell? ⟨w.1.size,1,Y⟩=O (I U 0):=db V 1;have cq:=eH V 0;have cr:=eH V 1
  have Q:N (AC w.1.size w ((wr.setCell ⟨w.1.size,0,Y⟩ (I U (y:Nat))).setCell ⟨w.1.size,1,Y⟩ (I U (E:Nat)))∧((wr.setCell ⟨w.1.size,0,Y⟩ (I U (y:Nat))).setCell ⟨w.1.size,1,Y⟩ (I U (E:Nat))).1[w.1.size]?=O (wx #[I U (y:Nat),I U (E:Nat)] 226 (0,0))) :=
   ⟨(D.out.1.low.setCell (p:=⟨w.1.size,0,Y⟩) gQx _).setCell (p:=⟨w.1.size,1,Y⟩) gQx _,tA V _ _⟩
  have co:=gQq (nQ S);clear S V;cases g with
  |zero=>
   have ab:N (R=⟨y,E⟩):=D.out.2;clear D;go_wp2_with fail;refine bodyPost_ret (results_cell_row rfl _ _ w.1.size _ _ _ _ rfl Q.out.2 underlying226 rfl (by kernel_rfl)) rfl ?_;rw[ab.out];exact⟨rfl,Q.out.1⟩
  |succ k=>
   have aj:(((k+1:Nat):Int)-1)=(k:Int):=(by omega);rw[aj];have ct:k<a:=(by omega);have bs:((a:Int)-(k:Int))=((a-k:Nat):Int):=(by omega);by_cases cd:1024<a-k
   ·have ab:N (R=⟨y,E⟩):=D.out.2.trans (jN (.inl cd));clear D aj;go_wp2_with fail;refine bodyPost_ret (results_cell_row rfl _ _ w.1.size _ _ _ _ rfl Q.out.2 underlying226 rfl (by kernel_rfl)) rfl ?_;rw[ab.out];exact⟨rfl,Q.out.1⟩
   by_cases ci:most<=y
   ·have ab:N (R=⟨y,E⟩):=D.out.2.trans (jN (.inr ci));clear D aj;go_wp2_with fail;refine bodyPost_ret (results_cell_row rfl _ _ w.1.size _ _ _ _ rfl Q.out.2 underlying226 rfl (by kernel_rfl)) rfl ?_;rw[ab.out];exact⟨rfl,Q.out.1⟩
   have ah:N (R=Blk.chain b a most (Blk.ahead b k) (Blk.ahead b k) (if y<Blk.alike (b.drop k) ((b.drop a).take most) then ⟨Blk.alike (b.drop k) ((b.drop a).take most),a-k⟩ else ⟨y,E⟩)):=D.out.2.trans (pK (by show ¬(_∨most<=y);omega));have cn:=fun w=>iF U q b.length c k (by omega) w;have a9:=fun w=>gA q b.length c a (a+most) (by omega) (by omega) w;have bT:(b.drop k).length=b.length-k:=AL;have a5:((b.drop a).take most).length=most:=(by rw[AM,AL];omega);have Z:N (∀n,Calls AE 172 #[pv (bI q k c) (b.drop k).length (c-k),pv (bI q a c) ((b.drop a).take most).length (c-a)] (wr.drewN n) fun e w'=>e=.returned (I U (Blk.alike (b.drop k) ((b.drop a).take most):Nat))∧w'=wr.drewN n):=fun n=>
    yS (b.drop k) ((b.drop a).take most) (bI q k c) (bI q a c) (c-k) (c-a) (wr.drewN n) (by omega) (by omega) (by omega) ((D.out.1.at_.cut10 k c bN).drewN n) (by
     have J:=(D.out.1.at_.cut10 a c bN).drewN n;rcases J with J | ⟨cb,ck,J,X,a0⟩
     ·exact .inl (by rw[J];simp)
     ·exact .inr ⟨cb,ck,J,X,cF a0 most⟩)
   rw[bT,a5] at Z;rw[show a+most-a=most by omega] at a9;have bv:=(Blk.alike_le (b.drop k) ((b.drop a).take most)).2;rw[a5] at bv;obtain⟨n,b2⟩:∃n,n=Blk.alike (b.drop k) ((b.drop a).take most):=⟨_,rfl⟩;rw[<-b2] at ah Z bv;obtain⟨b6,a7⟩:∃b6,b6=bI q k c:=⟨_,rfl⟩;obtain⟨b7,a8⟩:∃b7,b7=bI q a c:=⟨_,rfl⟩;obtain⟨b5,a4⟩:∃b5,b5=b.length-k:=⟨_,rfl⟩;obtain⟨b3,a2⟩:∃b3,b3=c-k:=⟨_,rfl⟩;obtain⟨b4,a3⟩:∃b4,b4=c-a:=⟨_,rfl⟩;rw[<-a7,<-a2,<-a4] at cn;rw[<-a8,<-a3] at a9;rw[<-a7,<-a8,<-a2,<-a3,<-a4] at Z;have bk:((a+most:Nat):Int)=(a:Int)+(most:Int):=(by omega);rw[bk] at a9;have b8:=gQq bs;clear bk bs;have M:=gQq D.out.1;have cu:=Blk.ahead_le b k;clear bT a5 b2 a7 a8 a4 a2 a3 D Q aj;by_cases bO:y<n
   ·have ak:N (R=Blk.chain b a most (Blk.ahead b k) (Blk.ahead b k) ⟨n,a-k⟩):=by
     show _=_;rw[ah.out,AG bO]
    clear ah;go_wp2_with fail;go_quiet (first | (go_at_call 172;exact Calls.quiet_of_same (Z.out _)));go_wp2_with fail;rw[b8.out];have L:N (pS w (((wr.drewN nq).setCell ⟨w.1.size+1,0,Y⟩ (I U (n:Nat))).setCell ⟨w.1.size+1,1,Y⟩ (I U ((a-k:Nat):Int))) q b G A ⟨n,a-k⟩):=M.out.put b9.out bp bn ⟨n,a-k⟩ nq;generalize ((wr.drewN nq).setCell ⟨w.1.size+1,0,Y⟩ (I U (n:Nat))).setCell ⟨w.1.size+1,1,Y⟩ (I U ((a-k:Nat):Int))=aw at L ⊢;refine(ol b G A k aw hb (by omega) L.out.look).mono ?_;rintro e w' ⟨rfl,K⟩;rw[K];clear K w';go_wp2_with fail;go_roundw;case rel=>exact⟨Blk.ahead b k,⟨n,a-k⟩,rfl,by omega,by show n<=255;omega,by show a-k<=1024;omega,L.out,ak.out⟩
    case measure=>simp[intOf];omega
   ·have ak:N (R=Blk.chain b a most (Blk.ahead b k) (Blk.ahead b k) ⟨y,E⟩):=by
     show _=_;rw[ah.out,AF bO]
    clear ah;go_wp2_with fail;go_quiet (first | (go_at_call 172;exact Calls.quiet_of_same (Z.out _)));go_wp2_with fail;have L:N (pS w (wr.drewN nq) q b G A ⟨y,E⟩):=⟨below_drewN M.out.low nq,M.out.res,M.out.best,⟨M.out.look.row,M.out.look.var⟩,M.out.at_.drewN nq⟩;generalize wr.drewN nq=aw at L ⊢;refine(ol b G A k aw hb (by omega) L.out.look).mono ?_;rintro e w' ⟨rfl,K⟩;rw[K];clear K w';go_wp2_with fail;go_roundw;case rel=>exact⟨Blk.ahead b k,⟨y,E⟩,rfl,by omega,b1,bX,L.out,ak.out⟩
    case measure=>simp[intOf];omega
end
section
open Go.RowKit
theorem gv{D:Array Oper}{o:Oper}{a:Act}{y:Act->AU->Prop}{K:Exit->Act->AU->Prop}{J:Prop}{f:FuncId}{fn:Func}{code:Code}{u:Value}{R:Ending->AU->Prop}(x E:Operand)(t t':TypeId)(Z:o.guard=Y)(ai:o.op=Op.call { callee:=.value (.func f),args:=#[x,E],argTypes:=#[t,t'] })(aw:a.eval x=u)(a0:a.eval E=v)(X : Tryz.prog.funcs[f]?=O fn)(ah : (fn.name== "runtime.NumGoroutine")=false)(hb : fn.body=O code)(Q:Calls AE f #[u,v] w R)(M:∀e w',R e w'->∃z,e=.returned z∧y (a.put o.dst z) w'):
  if Region.wanted o (yielded D a.tmps)=true then Oper.wp AE o a w y K else J:=by
 have ak:Region.wanted o (yielded D a.tmps)=true:=by simp[Region.wanted,Z]
 rw[AG ak];have L : fn.name≠ "runtime.NumGoroutine" := by simpa using ah
 unfold Oper.wp;have S:(execOp a.eval o).run AE w=.ok (.enter f #[u,v]) w:=by
  have V:a.eval (.func f)=.func (.func f) #[] #[]:=rfl;simp[execOp,ai,resolve,invoke,aw,a0,V,Deferred.ofValue,callFunc,X,L,hb]
 rw[S,Oper.upon_enter];refine Q.mono ?_;intro e w' aj;obtain⟨z,rfl,ab⟩:=M e w' aj;exact ab
theorem pQ{F:Nat->Prop}(h:Aside F w.drew w'):Aside F w w':=⟨h.os,h.tape,h.output,h.size,h.block⟩
structure sJ(w w1 wr:AU)(q:OA)(b:L8)(G A:Nat)(v:Value)(p:L8):Prop where
 low:AC w.1.size w w1
 more:AC w1.1.size w1 wr
 look:nU wr G A b
 at_:AtB wr w1.1.size q b
 has:Has wr w1.1.size v p
theorem sJ.next{w1:AU}{b:L8}{v':Value}{p y:L8}(h:sJ w w1 wr q b G A v p)(E:G<w1.1.size)(D:A<w1.1.size)(hb:AC w1.1.size wr w')(J:Has w' w1.1.size v' y):sJ w w1 w' q b G A v' y :=
 ⟨h.low,h.more.trans hb,h.look.keep hb E D,h.at_.keep hb,J⟩
theorem tw(p l:L8):(Blk.putL p l).length<=p.length+10+l.length:=by
 unfold Blk.putL;split
 ·omega
 ·have:=Leb.put_length_le (2*l.length);simp only[AH];omega
theorem tv(p:L8)(m:Blk.Mt):(Blk.putM p m).length<=p.length+20:=by
 unfold Blk.putM;have:=Leb.put_length_le (2*m.size+1);have:=Leb.put_length_le m.back;simp only[AH];omega
theorem mW(b:L8)(q:OA)(c:Nat)(w:AU)(hb:b.length<=2048)(bT:b.length<=c)(b1:At w q b):
    Calls AE 108 #[pv q b.length c] w fun e w'=>∃cp cap,e=.returned (pv cp (Blk.packT b).length cap)∧Has w' w.1.size (pv cp (Blk.packT b).length cap) (Blk.packT b)∧AC w.1.size w w':=by
  have b6:=gQq (we b q c w hb b1);have b7:=gQq b1;obtain⟨R,bv⟩:∃R,R=Blk.packT b:=⟨_,rfl⟩;have cu:N (R=Blk.pk b (b.length-0) 0 0 [1]):=bv;rw[<-bv];clear bv b1;go_enter func108,ntmps108;go_wp2_with fail;refine b6.out.mono ?_;rintro e w1 ⟨rfl,X,bX⟩;obtain⟨G,cc⟩:∃G,G=w.1.size+1+1:=⟨_,rfl⟩;obtain⟨A,cb⟩:∃A,A=w.1.size+1:=⟨_,rfl⟩;rw[<-cc] at X ⊢;rw[<-cb] at X;have bs:=X.var.lt;have bq:=X.row.lt;have b8:N (sJ w w1 (w1.alloc (wx #[I .u8 1] 5)) q b G A (pv (O ⟨w1.1.size,0,Y⟩) 1 1) [1]):=by
    have bN:AC w1.1.size w1 (w1.alloc (wx #[I .u8 1] 5)):=gQy;exact⟨bX,bN,X.keep bN bs bq,((b7.out.on bX).atB gQx).keep bN,dB (B:=w1.1.size) [1] rfl gQx (by decide)⟩
  clear cc cb X bX b6 b7;go_wp2_with fail;generalize w1.alloc (wx #[I .u8 1] 5)=d4 at b8 ⊢;go_loopw [4,5,6] (fun d1 d2 b4 wr=>∃(fr a:Nat) (p:L8),fr<=a∧a<=b.length∧d2=I U fr∧b4=I U a∧p.length<=60*fr+100∧N (sJ w w1 wr q b G A d1 p∧R=Blk.pk b (b.length-a) fr a p)) (fun _ _ b4 _=>b.length-(intOf b4).toNat);case atStart=>exact⟨0,0,[1],gQx,Nat.zero_le _,rfl,rfl,by decide,b8.out,cu.out⟩
  case round=>
    obtain⟨fr,a,p,ea,d8,rfl,rfl,eb,Q⟩:=hrel;obtain⟨ah,cap,rfl,-,d9⟩:=Q.out.1.has.at;have D:=gQq Q.out.1;have b2:=D.out.more.size;by_cases b0:a<b.length
    · have bk:=gQq (tU b q c G A a wr hb bT b0 D.out.at_.at_ D.out.look);have bi:=Blk.longest_good b a;have a8:=gQq (fun L=>Q.out.2.trans (Blk.pk_skip (fr:=fr) (p:=p) b0 L));have a9:=gQq (fun L=>Q.out.2.trans (Blk.pk_take (fr:=fr) (p:=p) b0 L));obtain⟨m,cj⟩:∃m,m=Blk.longest b a:=⟨_,rfl⟩;rw[<-cj] at bk bi a8 a9;clear cj Q;go_wp2_with fail;refine bk.out.mono ?_;rintro e y ⟨rfl,bc⟩;obtain⟨E,bb⟩:∃E,E=y.alloc (wx #[I U (m.size:Nat),I U (m.back:Nat)] 226):=⟨_,rfl⟩;have bO:AC wr.1.size wr E:=(by rw[bb];exact bc.alloc bc.size _);have aw:E.1[y.1.size]?=O (wx #[I U (m.size:Nat),I U (m.back:Nat)] 226 (0,0)):=(by rw[bb];exact iu y _);have c0:E.cell? ⟨y.1.size,0,Y⟩=O (I U (m.size:Nat)):=db aw 0;have c1:E.cell? ⟨y.1.size,1,Y⟩=O (I U (m.back:Nat)):=db aw 1;have aj:N (sJ w w1 E q b G A (pv ah p.length cap) p):=D.out.next bs bq (bO.mono b2) (D.out.has.on bO);have eg:wr.1.size<=y.1.size:=bc.size;have bn:=gQq bb;have d3:=gQq aw;have co:=nQ aw;have bl:N (∀k,(pv ah p.length cap).ownBlock=O k->k<wr.1.size):=fun k df=>(D.out.has.lt k df).2;clear bc bO bb aw bk;by_cases L:m.size=0
      · have V:=gQq (a8.out L);have cv:N (E=y.alloc (wx #[I U 0,I U (m.back:Nat)] 226)):=by
          have h:=bn.out;rw[L] at h;exact h
        clear a8 a9 bi c0 bn;go_wp2_with fail;rw[<-cv.out];go_roundw;case rel=>exact⟨fr,a+1,p,by omega,by omega,rfl,by go_num,by omega,aj.out,V.out⟩
        case measure=>simp[intOf];omega
      · have be:=bi.resolve_left L;have V:=gQq (a9.out L);have d7:((m.size:Int)==0)=false:=(by rw[BQ];omega);have ds:=be.most;have du:=be.near;have dv:=be.fits;have em:=be.four;have b3:=fun w=>gA q b.length c fr a (by omega) (by omega) w;have S:((b.drop fr).take (a-fr)).length=a-fr:=(by rw[AM,AL];omega);have bj:N (AtB E w1.1.size (bI q fr c) ((b.drop fr).take (a-fr))):=by
          have b9:=aj.out.at_.cut fr c bT;refine⟨?_,fun dr=>b9.low (fun c8=>dr (by rw[c8];simp))⟩;rcases b9.at_ with bp | ⟨cy,d0,bp,c6,c7⟩
          · exact .inl (by rw[bp];simp)
          · exact .inr ⟨cy,d0,bp,c6,cF c7 _⟩
        have K:=gQq (qg p ((b.drop fr).take (a-fr)) w1.1.size (pv ah p.length cap) (bI q fr c) (c-fr) E.drew (by show w1.1.size<=E.1.size;omega) (by omega) (by rw[S];omega) aj.out.has ⟨bj.out.at_,bj.out.low⟩);have cn:=tw p ((b.drop fr).take (a-fr));rw[S] at K cn;obtain⟨M,ck⟩:∃M,M=Blk.putL p ((b.drop fr).take (a-fr)):=⟨_,rfl⟩;rw[<-ck] at K V cn;have ec:=tv M m;obtain⟨ai,a5⟩:∃ai,ai=bI q fr c:=⟨_,rfl⟩;obtain⟨Z,a3⟩:∃Z,Z=c-fr:=⟨_,rfl⟩;obtain⟨ab,a4⟩:∃ab,ab=a-fr:=⟨_,rfl⟩;rw[<-a5,<-a3,<-a4] at b3 K;clear ck a5 a3 a4 a8 a9 bi S bj;go_wp2_with fail;rw[<-bn.out]
        go_region_law (first
          | (refine gv (u:=pv ah p.length cap) (v:=pv ai ab Z) (.tmp 24) (.tmp 28) 40 40 (by rfl) (by rfl) (by simp[Act.eval,Act.put]) (by simp[Act.eval,Act.put]) func141 (by kernel_rfl) (by rfl) K.out ?_;rintro e w4 ⟨a6,ak,rfl,a2,a0,ci⟩;refine⟨_,rfl,?_⟩;have J:Aside (fun k=>(pv ah p.length cap).ownBlock=O k) E w4:=pQ a0;have c5:w4.cell? ⟨y.1.size,0,Y⟩=O (I U (m.size:Nat)):=(by rw[J.cell (p:=⟨y.1.size,0,Y⟩) co (fun a1=>by have:=bl.out _ a1;exact absurd this (by show ¬y.1.size<wr.1.size;omega))];exact c0);have d6:w4.cell? ⟨y.1.size,1,Y⟩=O (I U (m.back:Nat)):=(by rw[J.cell (p:=⟨y.1.size,1,Y⟩) co (fun a1=>by have:=bl.out _ a1;exact absurd this (by show ¬y.1.size<wr.1.size;omega))];exact c1);have a7:=gQq a2;have cq:=gQq J;have el:=J.size;have ct:=gQq ci;clear a2 a0 J ci)
          | (refine gv (u:=pv a6 M.length ak) (v:=.agg #[I U (m.size:Nat),I U (m.back:Nat)]) (.tmp 29) (.tmp 30) 40 226 (by rfl) (by rfl) (by simp[Act.eval]) (by simp[Act.eval]) func140 (by kernel_rfl) (by rfl) (vW M m w1.1.size (pv a6 M.length ak) _ (by show w1.1.size<=w4.1.size;omega) (by omega) ds du a7.out) ?_;rintro e w5 ⟨en,d5,rfl,cd,J,dj⟩;refine⟨_,rfl,?_⟩;have cs:=gQq cd;have b5:N (Aside (fun k=>(pv a6 M.length ak).ownBlock=O k) w4 w5):=⟨J.os,J.tape,J.output,J.size,J.block⟩;have ep:w5.cell? ⟨y.1.size,0,Y⟩=O (I U (m.size:Nat)):=by
               rw[b5.out.cell (p:=⟨y.1.size,0,Y⟩) (by show y.1.size<w4.1.size;omega) (fun a1=>by
                 rcases ct.out _ a1 with h | h
                 · have:=bl.out _ h;exact absurd this (by show ¬y.1.size<wr.1.size;omega)
                 · exact absurd h (by show ¬E.1.size<=y.1.size;omega))]
               exact c5
             clear cd J dj)
          |fail)
        all_goals
          go_wp2_with fail;go_roundw;case rel=>
            have cw:AC w1.1.size E w4:=aC cq.out aj.out.has (by omega);have cx:AC w1.1.size w4 w5:=aC b5.out a7.out (by omega);refine⟨a+m.size,a+m.size,Blk.putM M m,gQx,dv,by go_num,by go_num,by omega,aj.out.next bs bq (cw.trans cx) cs.out,V.out⟩
          case measure=>simp[intOf];omega
    · have c9:a=b.length:=(by omega);have V:=gQq (Q.out.2.trans (Blk.pk_end (by omega)));have b3:=fun w=>iF U q b.length c fr (by omega) w;have S:(b.drop fr).length=b.length-fr:=AL;have K:=gQq (qg p (b.drop fr) w1.1.size (pv ah p.length cap) (bI q fr c) (c-fr) wr b2 (by omega) (by rw[S];omega) D.out.has (D.out.at_.cut fr c bT));rw[S,<-V.out] at K;obtain⟨ai,a5⟩:∃ai,ai=bI q fr c:=⟨_,rfl⟩;obtain⟨Z,a3⟩:∃Z,Z=c-fr:=⟨_,rfl⟩;obtain⟨ab,a4⟩:∃ab,ab=b.length-fr:=⟨_,rfl⟩;rw[<-a5,<-a3,<-a4] at b3 K;clear a5 a3 a4 S Q;subst c9;go_wp2_with fail;refine K.out.mono ?_;rintro e w4 ⟨a6,ak,rfl,a2,a0,-⟩;have a7:=gQq a2;have cr:=gQq (aC a0 D.out.has b2);clear a2 a0;go_wp2;go_ret;refine⟨a6,ak,rfl,a7.out.lower D.out.low.size,D.out.low.trans ((D.out.more.mono D.out.low.size).trans (cr.out.mono D.out.low.size))⟩
theorem zr(b:L8)(q:OA)(c:Nat)(w:AU)(hb:b.length<=140737488351232)(a5:b.length<=c)(M:At w q b):
    Calls AE 79 #[pv q b.length c] w (zY w (Blk.pack b)):=by
  obtain⟨R,y⟩:∃R,R=Blk.pack b:=⟨_,rfl⟩;rw[<-y];unfold Blk.pack at y;by_cases Z:2048<b.length
  · rw[AG Z] at y;have D:=gQq y;clear y;go_enter func79,ntmps79;go_wp2;go_ret2;rw[D.out];exact⟨Y,0,0,rfl,rfl,bG _ _,gQz⟩
  · rw[AF Z] at y;have X:=gQq (mW b q c w (by omega) a5 M);have a1:=gQq M;obtain⟨p,ai⟩:∃p,p=Blk.packT b:=⟨_,rfl⟩;rw[<-ai] at X y;have J:=gQq y;clear ai M y;go_enter func79,ntmps79;go_wp2_with fail;refine X.out.mono ?_;rintro e w1 ⟨a7,a3,rfl,E,L⟩;have a0:=gQq E;have K:=gQq L;have Q:=L.size;clear E L;by_cases ab:p.length<=b.length
    · have D:N (R=⟨0,p⟩):=(by show _=_;rw[J.out,AG ab]);clear J;go_wp2;go_ret2;rw[D.out];exact⟨a7,_,a3,rfl,rfl,a0.out,K.out⟩
    · have D:N (R=⟨0,0::b⟩):=(by show _=_;rw[J.out,AF ab]);clear J;have V:N (Has (w1.alloc (wx #[I .u8 0] 5)) w1.1.size (pv (O ⟨w1.1.size,0,Y⟩) 1 1) [0]):=dB (B:=w1.1.size) [0] rfl gQx (by decide);have aj:N (At (w1.alloc (wx #[I .u8 0] 5)) q b):=(a1.out.on K.out).on gQy;have aw:N (AC w.1.size w (w1.alloc (wx #[I .u8 0] 5))):=K.out.alloc Q _
      go_wp2_with (first|(at_builtin;refine aD (xs:=[0]) V.out aj.out (by simp;omega) (by simp) rfl rfl rfl rfl rfl ?_;intro a9 a8 a4 W a2 E ah a6;have S:=gQq E;have ak:=gQq (aC ah V.out (by simp));clear E ah a6)|fail)
      go_ret2;rw[D.out];have e:a9=0::b:=a2.out;rw[e] at S;rw[e];exact⟨a8,_,a4,rfl,rfl,S.out.lower Q,aw.out.trans (ak.out.mono Q)⟩
end
end Go.Proofs.YtngmnfdaedlodaaGreatDoor
