import Derived.Test.YtbahfgdbjgkklaaGreatDoorB34
set_option maxRecDepth 100000
set_option maxHeartbeats 4000000
namespace Go.Proofs.YtbahfgdbjgkklaaGreatDoor
variable{A G a b k most:Nat}{w w' wr:World}{v:Value}{q:OA}{C:AV}{T:TypeId}{o:Obj}
section
open Go.RowKit
theorem dy{fr:Nat×Nat}(h:w.1[b]?=some (.cells C T fr))(m:Nat):w.cell? ⟨b,m,none⟩=C[m]?:=by
 simp[World.cell?,h]
theorem fu(h:w.1[b]?=some (.cells C T (0,0)))(m:Nat):w.frozen? ⟨b,m,none⟩=false:=by
 simp[World.frozen?,h]
theorem oK(h:w.1[b]?=some o):b<w.1.size:=(Array.getElem?_eq_some_iff.1 h).1
theorem iJ(w:World)(o:Obj):(w.alloc o).1[w.1.size]?=some o:=by
 show(w.1.push o)[w.1.size]?=_;simp
theorem ta(w:World)(o:Obj){k:Nat}(h:k<w.1.size):(w.alloc o).1[k]?=w.1[k]?:=by
 show(w.1.push o)[k]?=_;rw[Array.getElem?_push,if_neg (by omega)]
theorem lU(h:w.1[b]?=some (.cells C T (0,0)))(m:Nat)(u:Value):(w.setCell ⟨b,m,none⟩ u).1[b]?=some (.cells (C.set! m u) T (0,0)):=by
 simp[World.setCell,Array.getElem?_modify,h]
theorem gj(h:w.1[b]?=some o)(p:Addr)(u:Value)(y:b≠p.block):(w.setCell p u).1[b]?=some o:=(Below.heap_setCell _ _ _ _ y).trans h
theorem Ab(w:World)(y z:Obj):((w.alloc y).alloc z).1[w.1.size]?=some y∧((w.alloc y).alloc z).1[w.1.size+1]?=some z∧Below w.1.size w ((w.alloc y).alloc z)∧((w.alloc y).alloc z).1.size=w.1.size+2:=by
 refine⟨?_,?_,gQy.alloc (by simp) _,by simp⟩
 ·rw[ta _ _ (by simp)];exact iJ w _
 ·have:=iJ (w.alloc y) z;simpa using this
theorem ua{g:Nat}{x y:Value}(h:w.1[g]?=some (.cells #[x,y] T (0,0)))(u v:Value):((w.setCell ⟨g,0,none⟩ u).setCell ⟨g,1,none⟩ v).1[g]?=some (.cells #[u,v] T (0,0)):=by
 rw[lU (lU h 0 u) 1 v];rfl
theorem oP.keep{B:Nat}{b:L8}(h:oP w G A b)(hb:Below B w w')(z:G<B)(y:A<B):oP w' G A b:=⟨h.row.of_block (hb.block A y),h.var.of_block (hb.block G z)⟩
theorem pi(b:L8)(G A i:Nat)(w:World)(hb:b.length<=2048)(D:i<b.length)(h:oP w G A b):
  Calls Tryz.prog 199 #[.int .i64 i,.pointer (some ⟨G,0,none⟩)] w fun e w'=>e=.returned (.int .i64 ((Blk.ahead b i:Nat)-1))∧w'=w:=by
 have c0:=h.var.cell (i:=0) (by omega);have c1:=h.row.cell D;have E:=Blk.ahead_le b i;obtain⟨y,z⟩:∃y,y=Blk.ahead b i:=⟨_,rfl⟩;rw[<-z] at c1 E ⊢;clear z h;go_enter Tryz.func199,Tryz.ntmps199;go_wp2;go_ret;exact⟨rfl,rfl⟩
theorem gP(p:OA)(len c a e:Nat)(h:a<=e)(z:e<=c)(w:World):(Instr.slice 22 (.slice p len c) (some (.int .i64 a)) (some (.int .i64 e)) none).run Tryz.prog w=.ok (.slice (ba p a c) (e-a) (c-a)) w:=by
 have y:(sizeOf (Tryz.prog.elem 22)).run Tryz.prog w=.ok 1 w:=by kernel_rfl
 rw[run_slice_lh w 22 p len c (by kernel_rfl) .i64 .i64 (a:Int) (e:Int) (by omega) (by omega) (by omega),y];simp[sliced,ba,Result.andThen]
theorem kB{b:L8}{m:Blk.Mt}(h:1024<a-k∨most<=m.size):Blk.chain b a most (k+1) (k+1) m=m:=by
 rw[Blk.chain,if_pos h]
theorem qn{b:L8}{m:Blk.Mt}(h:¬(1024<a-k∨most<=m.size)):Blk.chain b a most (k+1) (k+1) m=Blk.chain b a most (Blk.ahead b k) (Blk.ahead b k) (if m.size<Blk.alike (b.drop k) ((b.drop a).take most) then ⟨Blk.alike (b.drop k) ((b.drop a).take most),a-k⟩ else m):=by
 rw[Blk.chain,if_neg h];exact Blk.chain_more (Blk.ahead_le b k) gQx
structure Best(w wr:World)(q:OA)(b:L8)(G A:Nat)(m:Blk.Mt):Prop where
 low:Below w.1.size w wr
 res:wr.1[w.1.size]?=some (.cells #[.int .i64 0,.int .i64 0] 230 (0,0))
 best:wr.1[w.1.size+1]?=some (.cells #[.int .i64 (m.size:Nat),.int .i64 (m.back:Nat)] 230 (0,0))
 look:oP wr G A b
 at_:At wr q b
theorem Best.put{b:L8}{m:Blk.Mt}(h:Best w wr q b G A m)(J:AtB w w.1.size q b)(E:G<w.1.size)(D:A<w.1.size)(y:Blk.Mt)(n:Nat):Best w (((wr.drewN n).setCell ⟨w.1.size+1,0,none⟩ (.int .i64 (y.size:Nat))).setCell ⟨w.1.size+1,1,none⟩ (.int .i64 (y.back:Nat))) q b G A y:=by
 have hd:Below w.1.size w (wr.drewN n):=below_drewN h.low n
 have z:Below w.1.size w (((wr.drewN n).setCell ⟨w.1.size+1,0,none⟩ (.int .i64 (y.size:Nat))).setCell ⟨w.1.size+1,1,none⟩ (.int .i64 (y.back:Nat))) :=
  (hd.setCell (p:=⟨w.1.size+1,0,none⟩) (Nat.le_succ _) _).setCell (p:=⟨w.1.size+1,1,none⟩) (Nat.le_succ _) _
 refine⟨z,?_,ua (w:=wr.drewN n) h.best _ _,?_,(J.keep z).at_⟩
 ·exact gj (gj (w:=wr.drewN n) h.res _ _ (by show w.1.size≠w.1.size+1;omega)) _ _ (by show w.1.size≠w.1.size+1;omega)
 ·have I:Below w.1.size wr (((wr.drewN n).setCell ⟨w.1.size+1,0,none⟩ (.int .i64 (y.size:Nat))).setCell ⟨w.1.size+1,1,none⟩ (.int .i64 (y.back:Nat))) :=
   ((below_drewN (Below.refl _ wr) n).setCell (p:=⟨w.1.size+1,0,none⟩) (Nat.le_succ _) _).setCell (p:=⟨w.1.size+1,1,none⟩) (Nat.le_succ _) _
  exact h.look.keep I E D
theorem uK(b:L8)(q:OA)(c G A a:Nat)(w:World)(hb:b.length<=2048)(bq:b.length<=c)(b8:a<b.length)(a2:At w q b)(h:oP w G A b):
  Calls Tryz.prog 146 #[.slice q b.length c,.int .i64 a,.func (.func 199) #[] #[.pointer (some ⟨G,0,none⟩)]] w fun e w'=>e=.returned (.agg #[.int .i64 ((Blk.longest b a).size:Nat),.int .i64 ((Blk.longest b a).back:Nat)])∧Below w.1.size w w':=by
 have bj:=h.var.lt;have bi:=h.row.lt;have b6:=gQq (a2.atB (Nat.le_refl w.1.size));obtain⟨most,bO⟩:∃most,most=min (b.length-a) 255:=⟨_,rfl⟩;have cq:min ((b.length:Int)-(a:Int)) 255=(most:Int):=by omega
 have co:a+most<=b.length:=by omega
 have cp:most<=255:=by omega
 have a8:Hid (Blk.longest b a=Blk.chain b a most (Blk.ahead b a) (Blk.ahead b a) ⟨0,0⟩):=by
  show _=_;rw[bO];exact Blk.chain_more (Blk.ahead_le b a) gQx
 obtain⟨W,ah⟩:∃W,W=(w.alloc (.cells #[.int .i64 0,.int .i64 0] 230)).alloc (.cells #[.int .i64 0,.int .i64 0] 230):=⟨_,rfl⟩;have a9:Hid (Best w W q b G A ⟨0,0⟩):=by
  obtain⟨be,E,Q,ab⟩:=Ab w (.cells #[.int .i64 0,.int .i64 0] 230) (.cells #[.int .i64 0,.int .i64 0] 230);rw[<-ah] at be E Q ab;exact⟨Q,be,E,h.keep Q bj bi,a2.on Q⟩
 have a7:=gQq (pi b G A a W hb b8 a9.out.look);have bb:=gQq ah;clear ah h a2;go_enter Tryz.func146,Tryz.ntmps146;have cb:=Blk.ahead_le b a;obtain⟨R,bk⟩:∃R,R=Blk.longest b a:=⟨_,rfl⟩;rw[<-bk] at a8 ⊢;clear bk bO;go_wp2_with fail;rw[<-bb.out];refine a7.out.mono ?_;rintro e w' ⟨rfl,I⟩;rw[I];clear I w' a7 bb;go_wp2_with fail;go_loopw [9] (fun a6 wr=>∃(g:Nat) (m:Blk.Mt),a6=.int .i64 ((g:Int)-1)∧g<=a∧m.size<=255∧m.back<=1024∧Hid (Best w wr q b G A m∧R=Blk.chain b a most g g m)) (fun a6 _=>(intOf a6+1).toNat);case atStart=>exact⟨Blk.ahead b a,⟨0,0⟩,rfl,cb,by decide,by decide,a9.out,a8.out⟩
 case round=>
  obtain⟨g,m,rfl,cj,bT,bN,z⟩:=hrel;obtain⟨y,D⟩:=m;dsimp only at bT bN;have M:wr.1[w.1.size+1]?=some (.cells #[.int .i64 (y:Nat),.int .i64 (D:Nat)] 230 (0,0)):=z.out.1.best;have O:=z.out.1.res;have c0:wr.cell? ⟨w.1.size+1,0,none⟩=some (.int .i64 (y:Nat)):=dy M 0;have c1:wr.cell? ⟨w.1.size+1,1,none⟩=some (.int .i64 (D:Nat)):=dy M 1;have cf:=fu M 0;have f1:=fu M 1;have c2:wr.cell? ⟨w.1.size,0,none⟩=some (.int .i64 0):=dy O 0;have c3:wr.cell? ⟨w.1.size,1,none⟩=some (.int .i64 0):=dy O 1;have cg:=fu O 0;have ci:=fu O 1
  have L:Hid (Below w.1.size w ((wr.setCell ⟨w.1.size,0,none⟩ (.int .i64 (y:Nat))).setCell ⟨w.1.size,1,none⟩ (.int .i64 (D:Nat)))∧((wr.setCell ⟨w.1.size,0,none⟩ (.int .i64 (y:Nat))).setCell ⟨w.1.size,1,none⟩ (.int .i64 (D:Nat))).1[w.1.size]?=some (.cells #[.int .i64 (y:Nat),.int .i64 (D:Nat)] 230 (0,0))) :=
   ⟨(z.out.1.low.setCell (p:=⟨w.1.size,0,none⟩) gQx _).setCell (p:=⟨w.1.size,1,none⟩) gQx _,ua O _ _⟩
  have ce:=gQq (oK M);clear M O;cases g with
  |zero=>
   have U:Hid (R=⟨y,D⟩):=z.out.2;clear z;go_wp2_with fail;refine bodyPost_ret (results_cell_row rfl _ _ w.1.size _ _ _ _ rfl L.out.2 Tryz.underlying230 rfl (by kernel_rfl)) rfl ?_;rw[U.out];exact⟨rfl,L.out.1⟩
  |succ k=>
   have X:(((k+1:Nat):Int)-1)=(k:Int):=(by omega);rw[X];have ck:k<a:=(by omega);have bn:((a:Int)-(k:Int))=((a-k:Nat):Int):=(by omega);by_cases b9:1024<a-k
   ·have U:Hid (R=⟨y,D⟩):=z.out.2.trans (kB (.inl b9));clear z X;go_wp2_with fail;refine bodyPost_ret (results_cell_row rfl _ _ w.1.size _ _ _ _ rfl L.out.2 Tryz.underlying230 rfl (by kernel_rfl)) rfl ?_;rw[U.out];exact⟨rfl,L.out.1⟩
   by_cases ca:most<=y
   ·have U:Hid (R=⟨y,D⟩):=z.out.2.trans (kB (.inr ca));clear z X;go_wp2_with fail;refine bodyPost_ret (results_cell_row rfl _ _ w.1.size _ _ _ _ rfl L.out.2 Tryz.underlying230 rfl (by kernel_rfl)) rfl ?_;rw[U.out];exact⟨rfl,L.out.1⟩
   have V:Hid (R=Blk.chain b a most (Blk.ahead b k) (Blk.ahead b k) (if y<Blk.alike (b.drop k) ((b.drop a).take most) then ⟨Blk.alike (b.drop k) ((b.drop a).take most),a-k⟩ else ⟨y,D⟩)):=z.out.2.trans (qn (by show ¬(_∨most<=y);omega));have cd:=fun w=>bY .i64 q b.length c k (by omega) w;have a5:=fun w=>gP q b.length c a (a+most) (by omega) (by omega) w;have bs:(b.drop k).length=b.length-k:=List.length_drop;have a1:((b.drop a).take most).length=most:=(by rw[List.length_take,List.length_drop];omega);have S:Hid (∀n,Calls Tryz.prog 200 #[.slice (ba q k c) (b.drop k).length (c-k),.slice (ba q a c) ((b.drop a).take most).length (c-a)] (wr.drewN n) fun e w'=>e=.returned (.int .i64 (Blk.alike (b.drop k) ((b.drop a).take most):Nat))∧w'=wr.drewN n):=fun n=>
    yP (b.drop k) ((b.drop a).take most) (ba q k c) (ba q a c) (c-k) (c-a) (wr.drewN n) (by omega) (by omega) (by omega) ((z.out.1.at_.cut10 k c bq).drewN n) (by
     have E:=(z.out.1.at_.cut10 a c bq).drewN n;rcases E with E | ⟨b7,cc,E,Q,ab⟩
     ·exact .inl (by rw[E];simp)
     ·exact .inr ⟨b7,cc,E,Q,cE ab most⟩)
   rw[bs,a1] at S;rw[show a+most-a=most by omega] at a5;have bp:=(Blk.alike_le (b.drop k) ((b.drop a).take most)).2;rw[a1] at bp;obtain⟨n,bX⟩:∃n,n=Blk.alike (b.drop k) ((b.drop a).take most):=⟨_,rfl⟩;rw[<-bX] at V S bp;obtain⟨b3,a3⟩:∃b3,b3=ba q k c:=⟨_,rfl⟩;obtain⟨b4,a4⟩:∃b4,b4=ba q a c:=⟨_,rfl⟩;obtain⟨b2,a0⟩:∃b2,b2=b.length-k:=⟨_,rfl⟩;obtain⟨b0,aj⟩:∃b0,b0=c-k:=⟨_,rfl⟩;obtain⟨b1,ak⟩:∃b1,b1=c-a:=⟨_,rfl⟩;rw[<-a3,<-aj,<-a0] at cd;rw[<-a4,<-ak] at a5;rw[<-a3,<-a4,<-aj,<-ak,<-a0] at S;have bc:((a+most:Nat):Int)=(a:Int)+(most:Int):=(by omega);rw[bc] at a5;have b5:=gQq bn;clear bc bn;have K:=gQq z.out.1;have cn:=Blk.ahead_le b k;clear bs a1 bX a3 a4 a0 aj ak z L X;by_cases br:y<n
   ·have Y:Hid (R=Blk.chain b a most (Blk.ahead b k) (Blk.ahead b k) ⟨n,a-k⟩):=by
     show _=_;rw[V.out,if_pos br]
    clear V;go_wp2_with fail;go_quiet (first | (go_at_call 200;exact Calls.quiet_of_same (S.out _)));go_wp2_with fail;rw[b5.out];have J:Hid (Best w (((wr.drewN nq).setCell ⟨w.1.size+1,0,none⟩ (.int .i64 (n:Nat))).setCell ⟨w.1.size+1,1,none⟩ (.int .i64 ((a-k:Nat):Int))) q b G A ⟨n,a-k⟩):=K.out.put b6.out bj bi ⟨n,a-k⟩ nq;generalize ((wr.drewN nq).setCell ⟨w.1.size+1,0,none⟩ (.int .i64 (n:Nat))).setCell ⟨w.1.size+1,1,none⟩ (.int .i64 ((a-k:Nat):Int))=Z at J ⊢;refine(pi b G A k Z hb (by omega) J.out.look).mono ?_;rintro e w' ⟨rfl,I⟩;rw[I];clear I w';go_wp2_with fail;go_roundw;case rel=>exact⟨Blk.ahead b k,⟨n,a-k⟩,rfl,by omega,by show n<=255;omega,by show a-k<=1024;omega,J.out,Y.out⟩
    case measure=>simp[intOf];omega
   ·have Y:Hid (R=Blk.chain b a most (Blk.ahead b k) (Blk.ahead b k) ⟨y,D⟩):=by
     show _=_;rw[V.out,if_neg br]
    clear V;go_wp2_with fail;go_quiet (first | (go_at_call 200;exact Calls.quiet_of_same (S.out _)));go_wp2_with fail;have J:Hid (Best w (wr.drewN nq) q b G A ⟨y,D⟩):=⟨below_drewN K.out.low nq,K.out.res,K.out.best,⟨K.out.look.row,K.out.look.var⟩,K.out.at_.drewN nq⟩;generalize wr.drewN nq=Z at J ⊢;refine(pi b G A k Z hb (by omega) J.out.look).mono ?_;rintro e w' ⟨rfl,I⟩;rw[I];clear I w';go_wp2_with fail;go_roundw;case rel=>exact⟨Blk.ahead b k,⟨y,D⟩,rfl,by omega,bT,bN,J.out,Y.out⟩
    case measure=>simp[intOf];omega
end
section
open Go.RowKit
theorem gM{D:Array Oper}{o:Oper}{a:Act}{z:Act->World->Prop}{J:Exit->Act->World->Prop}{I:Prop}{f:FuncId}{fn:Func}{code:Code}{u:Value}{R:Ending->World->Prop}(x E:Operand)(t aj:TypeId)(U:o.guard=none)(X:o.op=Op.call { callee:=.value (.func f),args:=#[x,E],argTypes:=#[t,aj] })(ab:a.eval x=u)(ah:a.eval E=v)(S : Tryz.prog.funcs[f]?=some fn)(W : (fn.name== "runtime.NumGoroutine")=false)(hb : fn.body=some code)(M:Calls Tryz.prog f #[u,v] w R)(L:∀e w',R e w'->∃y,e=.returned y∧z (a.put o.dst y) w'):
  if Region.wanted o (yielded D a.tmps)=true then Oper.wp Tryz.prog o a w z J else I:=by
 have Z:Region.wanted o (yielded D a.tmps)=true:=by simp[Region.wanted,U]
 rw[if_pos Z];have K : fn.name≠ "runtime.NumGoroutine" := by simpa using W
 unfold Oper.wp;have O:(execOp a.eval o).run Tryz.prog w=.ok (.enter f #[u,v]) w:=by
  have Q:a.eval (.func f)=.func (.func f) #[] #[]:=rfl;simp[execOp,X,resolve,invoke,ab,ah,Q,Deferred.ofValue,callFunc,S,K,hb]
 rw[O,Oper.upon_enter];refine M.mono ?_;intro e w' Y;obtain⟨y,rfl,V⟩:=L e w' Y;exact V
theorem qz{F:Nat->Prop}(h:Aside F w.drew w'):Aside F w w':=⟨h.os,h.tape,h.output,h.size,h.block⟩
structure tf(w w1 wr:World)(q:OA)(b:L8)(G A:Nat)(v:Value)(p:L8):Prop where
 low:Below w.1.size w w1
 more:Below w1.1.size w1 wr
 look:oP wr G A b
 at_:AtB wr w1.1.size q b
 has:Has wr w1.1.size v p
theorem tf.next{w1:World}{b:L8}{v':Value}{p y:L8}(h:tf w w1 wr q b G A v p)(D:G<w1.1.size)(z:A<w1.1.size)(hb:Below w1.1.size wr w')(E:Has w' w1.1.size v' y):tf w w1 w' q b G A v' y :=
 ⟨h.low,h.more.trans hb,h.look.keep hb D z,h.at_.keep hb,E⟩
theorem tZ(p l:L8):(Blk.putL p l).length<=p.length+10+l.length:=by
 unfold Blk.putL;split
 ·omega
 ·have:=Leb.put_length_le (2*l.length);simp only[List.length_append];omega
theorem tY(p:L8)(m:Blk.Mt):(Blk.putM p m).length<=p.length+20:=by
 unfold Blk.putM;have:=Leb.put_length_le (2*m.size+1);have:=Leb.put_length_le m.back;simp only[List.length_append];omega
theorem nS(b:L8)(q:OA)(c:Nat)(w:World)(hb:b.length<=2048)(bs:b.length<=c)(bT:At w q b):
    Calls Tryz.prog 91 #[.slice q b.length c] w fun e w'=>∃cf cap,e=.returned (.slice cf (Blk.packT b).length cap)∧Has w' w.1.size (.slice cf (Blk.packT b).length cap) (Blk.packT b)∧Below w.1.size w w':=by
  have b3:=gQq (wU b q c w hb bT);have b4:=gQq bT;obtain⟨R,bp⟩:∃R,R=Blk.packT b:=⟨_,rfl⟩;have cn:Hid (R=Blk.pk b (b.length-0) 0 0 [1]):=bp;rw[<-bp];clear bp bT;go_enter Tryz.func91,Tryz.ntmps91;go_wp2_with fail;refine b3.out.mono ?_;rintro e w1 ⟨rfl,Q,bN⟩;obtain⟨G,b8⟩:∃G,G=w.1.size+1+1:=⟨_,rfl⟩;obtain⟨A,b7⟩:∃A,A=w.1.size+1:=⟨_,rfl⟩;rw[<-b8] at Q ⊢;rw[<-b7] at Q;have bn:=Q.var.lt;have bk:=Q.row.lt;have b5:Hid (tf w w1 (w1.alloc (.cells #[.int .u8 1] 5)) q b G A (.slice (some ⟨w1.1.size,0,none⟩) 1 1) [1]):=by
    have bq:Below w1.1.size w1 (w1.alloc (.cells #[.int .u8 1] 5)):=gQy;exact⟨bN,bq,Q.keep bq bn bk,((b4.out.on bN).atB gQx).keep bq,dC (B:=w1.1.size) [1] rfl gQx (by decide)⟩
  clear b8 b7 Q bN b3 b4;go_wp2_with fail;generalize w1.alloc (.cells #[.int .u8 1] 5)=dd at b5 ⊢;go_loopw [4,5,6] (fun da db b1 wr=>∃(fr a:Nat) (p:L8),fr<=a∧a<=b.length∧db=.int .i64 fr∧b1=.int .i64 a∧p.length<=60*fr+100∧Hid (tf w w1 wr q b G A da p∧R=Blk.pk b (b.length-a) fr a p)) (fun _ _ b1 _=>b.length-(intOf b1).toNat);case atStart=>exact⟨0,0,[1],gQx,Nat.zero_le _,rfl,rfl,by decide,b5.out,cn.out⟩
  case round=>
    obtain⟨fr,a,p,dk,di,rfl,rfl,dn,L⟩:=hrel;obtain⟨V,cap,rfl,-,dj⟩:=L.out.1.has.at;have z:=gQq L.out.1;have bX:=z.out.more.size;by_cases bO:a<b.length
    · have bc:=gQq (uK b q c G A a wr hb bs bO z.out.at_.at_ z.out.look);have a9:=Blk.longest_good b a;have a4:=gQq (fun J=>L.out.2.trans (Blk.pk_skip (fr:=fr) (p:=p) bO J));have a5:=gQq (fun J=>L.out.2.trans (Blk.pk_take (fr:=fr) (p:=p) bO J));obtain⟨m,cb⟩:∃m,m=Blk.longest b a:=⟨_,rfl⟩;rw[<-cb] at bc a9 a4 a5;clear cb L;go_wp2_with fail;refine bc.out.mono ?_;rintro e y ⟨rfl,a7⟩;obtain⟨D,a6⟩:∃D,D=y.alloc (.cells #[.int .i64 (m.size:Nat),.int .i64 (m.back:Nat)] 230):=⟨_,rfl⟩;have br:Below wr.1.size wr D:=(by rw[a6];exact a7.alloc a7.size _);have Z:D.1[y.1.size]?=some (.cells #[.int .i64 (m.size:Nat),.int .i64 (m.back:Nat)] 230 (0,0)):=(by rw[a6];exact iJ y _);have c0:D.cell? ⟨y.1.size,0,none⟩=some (.int .i64 (m.size:Nat)):=dy Z 0;have c1:D.cell? ⟨y.1.size,1,none⟩=some (.int .i64 (m.back:Nat)):=dy Z 1;have X:Hid (tf w w1 D q b G A (.slice V p.length cap) p):=z.out.next bn bk (br.mono bX) (z.out.has.on br);have dr:wr.1.size<=y.1.size:=a7.size;have bi:=gQq a6;have dc:=gQq Z;have ce:=oK Z;have be:Hid (∀k,(Value.slice V p.length cap).ownBlock=some k->k<wr.1.size):=fun k cx=>(z.out.has.lt k cx).2;clear a7 br a6 Z bc;by_cases J:m.size=0
      · have O:=gQq (a4.out J);have co:Hid (D=y.alloc (.cells #[.int .i64 0,.int .i64 (m.back:Nat)] 230)):=by
          have h:=bi.out;rw[J] at h;exact h
        clear a4 a5 a9 c0 bi;go_wp2_with fail;rw[<-co.out];go_roundw;case rel=>exact⟨fr,a+1,p,by omega,by omega,rfl,by go_num,by omega,X.out,O.out⟩
        case measure=>simp[intOf];omega
      · have a8:=a9.resolve_left J;have O:=gQq (a5.out J);have dh:((m.size:Int)==0)=false:=(by rw[beq_eq_false_iff_ne];omega);have c6:=a8.most;have c7:=a8.near;have c8:=a8.fits;have dv:=a8.four;have b0:=fun w=>gP q b.length c fr a (by omega) (by omega) w;have M:((b.drop fr).take (a-fr)).length=a-fr:=(by rw[List.length_take,List.length_drop];omega);have bb:Hid (AtB D w1.1.size (ba q fr c) ((b.drop fr).take (a-fr))):=by
          have b6:=X.out.at_.cut fr c bs;refine⟨?_,fun c5=>b6.low (fun cv=>c5 (by rw[cv];simp))⟩;rcases b6.at_ with bj | ⟨cr,c9,bj,ct,cu⟩
          · exact .inl (by rw[bj];simp)
          · exact .inr ⟨cr,c9,bj,ct,cE cu _⟩
        have I:=gQq (qO p ((b.drop fr).take (a-fr)) w1.1.size (.slice V p.length cap) (ba q fr c) (c-fr) D.drew (by show w1.1.size<=D.1.size;omega) (by omega) (by rw[M];omega) X.out.has ⟨bb.out.at_,bb.out.low⟩);have cd:=tZ p ((b.drop fr).take (a-fr));rw[M] at I cd;obtain⟨K,cc⟩:∃K,K=Blk.putL p ((b.drop fr).take (a-fr)):=⟨_,rfl⟩;rw[<-cc] at I O cd;have dp:=tY K m;obtain⟨W,a1⟩:∃W,W=ba q fr c:=⟨_,rfl⟩;obtain⟨S,ak⟩:∃S,S=c-fr:=⟨_,rfl⟩;obtain⟨U,a0⟩:∃U,U=a-fr:=⟨_,rfl⟩;rw[<-a1,<-ak,<-a0] at b0 I;clear cc a1 ak a0 a4 a5 a9 M bb;go_wp2_with fail;rw[<-bi.out]
        go_region_law (first
          | (refine gM (u:=.slice V p.length cap) (v:=.slice W U S) (.tmp 24) (.tmp 28) 22 22 (by rfl) (by rfl) (by simp[Act.eval,Act.put]) (by simp[Act.eval,Act.put]) Tryz.func148 (by kernel_rfl) (by rfl) I.out ?_;rintro e w4 ⟨a2,Y,rfl,aj,ab,ca⟩;refine⟨_,rfl,?_⟩;have E:Aside (fun k=>(Value.slice V p.length cap).ownBlock=some k) D w4:=qz ab;have cs:w4.cell? ⟨y.1.size,0,none⟩=some (.int .i64 (m.size:Nat)):=(by rw[E.cell (p:=⟨y.1.size,0,none⟩) ce (fun ah=>by have:=be.out _ ah;exact absurd this (by show ¬y.1.size<wr.1.size;omega))];exact c0);have df:w4.cell? ⟨y.1.size,1,none⟩=some (.int .i64 (m.back:Nat)):=(by rw[E.cell (p:=⟨y.1.size,1,none⟩) ce (fun ah=>by have:=be.out _ ah;exact absurd this (by show ¬y.1.size<wr.1.size;omega))];exact c1);have a3:=gQq aj;have cg:=gQq E;have ds:=E.size;have ck:=gQq ca;clear aj ab E ca)
          | (refine gM (u:=.slice a2 K.length Y) (v:=.agg #[.int .i64 (m.size:Nat),.int .i64 (m.back:Nat)]) (.tmp 29) (.tmp 30) 22 230 (by rfl) (by rfl) (by simp[Act.eval]) (by simp[Act.eval]) Tryz.func147 (by kernel_rfl) (by rfl) (wO K m w1.1.size (.slice a2 K.length Y) _ (by show w1.1.size<=w4.1.size;omega) (by omega) c6 c7 a3.out) ?_;rintro e w5 ⟨d0,de,rfl,b9,E,cy⟩;refine⟨_,rfl,?_⟩;have cj:=gQq b9;have b2:Hid (Aside (fun k=>(Value.slice a2 K.length Y).ownBlock=some k) w4 w5):=⟨E.os,E.tape,E.output,E.size,E.block⟩;have d1:w5.cell? ⟨y.1.size,0,none⟩=some (.int .i64 (m.size:Nat)):=by
               rw[b2.out.cell (p:=⟨y.1.size,0,none⟩) (by show y.1.size<w4.1.size;omega) (fun ah=>by
                 rcases ck.out _ ah with h | h
                 · have:=be.out _ h;exact absurd this (by show ¬y.1.size<wr.1.size;omega)
                 · exact absurd h (by show ¬D.1.size<=y.1.size;omega))]
               exact cs
             clear b9 E cy)
          |fail)
        all_goals
          go_wp2_with fail;go_roundw;case rel=>
            have cp:Below w1.1.size D w4:=aB cg.out X.out.has (by omega);have cq:Below w1.1.size w4 w5:=aB b2.out a3.out (by omega);refine⟨a+m.size,a+m.size,Blk.putM K m,gQx,c8,by go_num,by go_num,by omega,X.out.next bn bk (cp.trans cq) cj.out,O.out⟩
          case measure=>simp[intOf];omega
    · have cw:a=b.length:=(by omega);have O:=gQq (L.out.2.trans (Blk.pk_end (by omega)));have b0:=fun w=>bY .i64 q b.length c fr (by omega) w;have M:(b.drop fr).length=b.length-fr:=List.length_drop;have I:=gQq (qO p (b.drop fr) w1.1.size (.slice V p.length cap) (ba q fr c) (c-fr) wr bX (by omega) (by rw[M];omega) z.out.has (z.out.at_.cut fr c bs));rw[M,<-O.out] at I;obtain⟨W,a1⟩:∃W,W=ba q fr c:=⟨_,rfl⟩;obtain⟨S,ak⟩:∃S,S=c-fr:=⟨_,rfl⟩;obtain⟨U,a0⟩:∃U,U=b.length-fr:=⟨_,rfl⟩;rw[<-a1,<-ak,<-a0] at b0 I;clear a1 ak a0 M L;subst cw;go_wp2_with fail;refine I.out.mono ?_;rintro e w4 ⟨a2,Y,rfl,aj,ab,-⟩;have a3:=gQq aj;have ci:=gQq (aB ab z.out.has bX);clear aj ab;go_wp2;go_ret;refine⟨a2,Y,rfl,a3.out.lower z.out.low.size,z.out.low.trans ((z.out.more.mono z.out.low.size).trans (ci.out.mono z.out.low.size))⟩
theorem zk(b:L8)(q:OA)(c:Nat)(w:World)(hb:b.length<=140737488351232)(a2:b.length<=c)(K:At w q b):
    Calls Tryz.prog 55 #[.slice q b.length c] w (tg w (Blk.pack b)):=by
  obtain⟨R,y⟩:∃R,R=Blk.pack b:=⟨_,rfl⟩;rw[<-y];unfold Blk.pack at y;by_cases S:2048<b.length
  · rw[if_pos S] at y;have z:=gQq y;clear y;go_enter Tryz.func55,Tryz.ntmps55;go_wp2;go_ret2;rw[z.out];exact⟨none,0,0,rfl,rfl,aM _ _,gQz⟩
  · rw[if_neg S] at y;have Q:=gQq (nS b q c w (by omega) a2 K);have aj:=gQq K;obtain⟨p,X⟩:∃p,p=Blk.packT b:=⟨_,rfl⟩;rw[<-X] at Q y;have E:=gQq y;clear X K y;go_enter Tryz.func55,Tryz.ntmps55;go_wp2_with fail;refine Q.out.mono ?_;rintro e w1 ⟨a4,a0,rfl,D,J⟩;have ah:=gQq D;have I:=gQq J;have L:=J.size;clear D J;by_cases U:p.length<=b.length
    · have z:Hid (R=⟨0,p⟩):=(by show _=_;rw[E.out,if_pos U]);clear E;go_wp2;go_ret2;rw[z.out];exact⟨a4,_,a0,rfl,rfl,ah.out,I.out⟩
    · have z:Hid (R=⟨0,0::b⟩):=(by show _=_;rw[E.out,if_neg U]);clear E;have O:Hid (Has (w1.alloc (.cells #[.int .u8 0] 5)) w1.1.size (.slice (some ⟨w1.1.size,0,none⟩) 1 1) [0]):=dC (B:=w1.1.size) [0] rfl gQx (by decide);have Y:Hid (At (w1.alloc (.cells #[.int .u8 0] 5)) q b):=(aj.out.on I.out).on gQy;have ab:Hid (Below w.1.size w (w1.alloc (.cells #[.int .u8 0] 5))):=I.out.alloc L _
      go_wp2_with (first|(at_builtin;refine aE (xs:=[0]) O.out Y.out (by simp;omega) (by simp) rfl rfl rfl rfl rfl ?_;intro a6 a5 a1 W ak D V a3;have M:=gQq D;have Z:=gQq (aB V O.out (by simp));clear D V a3)|fail)
      go_ret2;rw[z.out];have e:a6=0::b:=ak.out;rw[e] at M;rw[e];exact⟨a5,_,a1,rfl,rfl,M.out.lower L,ab.out.trans (Z.out.mono L)⟩
end
end Go.Proofs.YtbahfgdbjgkklaaGreatDoor
