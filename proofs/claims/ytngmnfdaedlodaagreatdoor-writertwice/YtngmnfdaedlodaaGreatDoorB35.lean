import Derived.Test.YtngmnfdaedlodaaGreatDoorB34
set_option maxRecDepth 100000
set_option maxHeartbeats 4000000
namespace Go.Proofs.YtngmnfdaedlodaaGreatDoor
open Go.Proofs.Tryz
open Go.Value renaming int->I,slice->mA
open Go.IntKind renaming i64->U
open Option renaming none->Y,some->O
open Go.RowKit renaming Hid->N,Below->AX
open Go.Obj renaming cells->qj
open Go renaming World->wv
open Go.Proofs.Tryz renaming prog->AW
variable{A G a k most:Nat}{w w' wr:wv}{v:Value}{q:OA}{C:AV}{T:TypeId}{o:Obj}
section
open Go.RowKit
theorem da{b:Nat}{fr:Nat×Nat}(h:w.1[b]?=O (qj C T fr))(m:Nat):w.cell? ⟨b,m,Y⟩=C[m]?:=by
 simp[World.cell?,h]
theorem eF{b:Nat}(h:w.1[b]?=O (qj C T (0,0)))(m:Nat):w.frozen? ⟨b,m,Y⟩=false:=by
 simp[World.frozen?,h]
theorem nG{b:Nat}(h:w.1[b]?=O o):b<w.1.size:=(Array.getElem?_eq_some_iff.1 h).1
theorem io(w:wv)(o:Obj):(w.alloc o).1[w.1.size]?=O o:=by
 show(w.1.push o)[w.1.size]?=_;simp
theorem sA(w:wv)(o:Obj){k:Nat}(h:k<w.1.size):(w.alloc o).1[k]?=w.1[k]?:=by
 show(w.1.push o)[k]?=_;rw[Array.getElem?_push,AJ (by omega)]
theorem kT{b:Nat}(h:w.1[b]?=O (qj C T (0,0)))(m:Nat)(u:Value):(w.setCell ⟨b,m,Y⟩ u).1[b]?=O (qj (C.set! m u) T (0,0)):=by
 simp[World.setCell,Array.getElem?_modify,h]
theorem fH{b:Nat}(h:w.1[b]?=O o)(p:Addr)(u:Value)(y:b≠p.block):(w.setCell p u).1[b]?=O o:=(Below.heap_setCell _ _ _ _ y).trans h
theorem zY(w:wv)(y D:Obj):((w.alloc y).alloc D).1[w.1.size]?=O y∧((w.alloc y).alloc D).1[w.1.size+1]?=O D∧AX w.1.size w ((w.alloc y).alloc D)∧((w.alloc y).alloc D).1.size=w.1.size+2:=by
 refine⟨?_,?_,gQy.alloc (by simp) _,by simp⟩
 ·rw[sA _ _ (by simp)];exact io w _
 ·have:=io (w.alloc y) D;simpa using this
theorem tm{g:Nat}{x y:Value}(h:w.1[g]?=O (qj #[x,y] T (0,0)))(u v:Value):((w.setCell ⟨g,0,Y⟩ u).setCell ⟨g,1,Y⟩ v).1[g]?=O (qj #[u,v] T (0,0)):=by
 rw[kT (kT h 0 u) 1 v];rfl
theorem nK.keep{B:Nat}{b:L8}(h:nK w G A b)(hb:AX B w w')(D:G<B)(y:A<B):nK w' G A b:=⟨h.row.of_block (hb.block A y),h.var.of_block (hb.block G D)⟩
theorem nX(b:L8)(G A i:Nat)(w:wv)(hb:b.length<=2048)(E:i<b.length)(h:nK w G A b):
  Calls AW 171 #[I U i,.pointer (O ⟨G,0,Y⟩)] w fun e w'=>e=.returned (I U ((Blk.ahead b i:Nat)-1))∧w'=w:=by
 have c0:=h.var.cell (i:=0) (by omega);have c1:=h.row.cell E;have J:=Blk.ahead_le b i;obtain⟨y,D⟩:∃y,y=Blk.ahead b i:=⟨_,rfl⟩;rw[<-D] at c1 J ⊢;clear D h;go_enter func171,ntmps171;go_wp2;go_ret;exact⟨rfl,rfl⟩
theorem gw(p:OA)(len c a e:Nat)(h:a<=e)(D:e<=c)(w:wv):(Instr.slice 40 (mA p len c) (O (I U a)) (O (I U e)) Y).run AW w=.ok (mA (bH p a c) (e-a) (c-a)) w:=by
 have y:(sizeOf (Tryz.prog.elem 40)).run AW w=.ok 1 w:=by kernel_rfl
 rw[run_slice_lh w 40 p len c (by kernel_rfl) U U (a:Int) (e:Int) (by omega) (by omega) (by omega),y];simp[sliced,bH,Result.andThen]
theorem jJ{b:L8}{m:Blk.Mt}(h:1024<a-k∨most<=m.size):Blk.chain b a most (k+1) (k+1) m=m:=by
 rw[Blk.chain,AK h]
theorem pB{b:L8}{m:Blk.Mt}(h:¬(1024<a-k∨most<=m.size)):Blk.chain b a most (k+1) (k+1) m=Blk.chain b a most (Blk.ahead b k) (Blk.ahead b k) (if m.size<Blk.alike (b.drop k) ((b.drop a).take most) then ⟨Blk.alike (b.drop k) ((b.drop a).take most),a-k⟩ else m):=by
 rw[Blk.chain,AJ h];exact Blk.chain_more (Blk.ahead_le b k) gQx
structure pI(w wr:wv)(q:OA)(b:L8)(G A:Nat)(m:Blk.Mt):Prop where
 low:AX w.1.size w wr
 res:wr.1[w.1.size]?=O (qj #[I U 0,I U 0] 226 (0,0))
 best:wr.1[w.1.size+1]?=O (qj #[I U (m.size:Nat),I U (m.back:Nat)] 226 (0,0))
 look:nK wr G A b
 at_:At wr q b
theorem pI.put{b:L8}{m:Blk.Mt}(h:pI w wr q b G A m)(L:AtB w w.1.size q b)(J:G<w.1.size)(E:A<w.1.size)(y:Blk.Mt)(n:Nat):pI w (((wr.drewN n).setCell ⟨w.1.size+1,0,Y⟩ (I U (y.size:Nat))).setCell ⟨w.1.size+1,1,Y⟩ (I U (y.back:Nat))) q b G A y:=by
 have hd:AX w.1.size w (wr.drewN n):=below_drewN h.low n
 have D:AX w.1.size w (((wr.drewN n).setCell ⟨w.1.size+1,0,Y⟩ (I U (y.size:Nat))).setCell ⟨w.1.size+1,1,Y⟩ (I U (y.back:Nat))) :=
  (hd.setCell (p:=⟨w.1.size+1,0,Y⟩) (Nat.le_succ _) _).setCell (p:=⟨w.1.size+1,1,Y⟩) (Nat.le_succ _) _
 refine⟨D,?_,tm (w:=wr.drewN n) h.best _ _,?_,(L.keep D).at_⟩
 ·exact fH (fH (w:=wr.drewN n) h.res _ _ (by show w.1.size≠w.1.size+1;omega)) _ _ (by show w.1.size≠w.1.size+1;omega)
 ·have K:AX w.1.size wr (((wr.drewN n).setCell ⟨w.1.size+1,0,Y⟩ (I U (y.size:Nat))).setCell ⟨w.1.size+1,1,Y⟩ (I U (y.back:Nat))) :=
   ((below_drewN (Below.refl _ wr) n).setCell (p:=⟨w.1.size+1,0,Y⟩) (Nat.le_succ _) _).setCell (p:=⟨w.1.size+1,1,Y⟩) (Nat.le_succ _) _
  exact h.look.keep K J E
theorem tM(b:L8)(q:OA)(c G A a:Nat)(w:wv)(hb:b.length<=2048)(bO:b.length<=c)(cd:a<b.length)(a7:At w q b)(h:nK w G A b):
  Calls AW 139 #[mA q b.length c,I U a,.func (.func 171) #[] #[.pointer (O ⟨G,0,Y⟩)]] w fun e w'=>e=.returned (.agg #[I U ((Blk.longest b a).size:Nat),I U ((Blk.longest b a).back:Nat)])∧AX w.1.size w w':=by
 have bq:=h.var.lt;have bp:=h.row.lt;have cb:=gQq (a7.atB (Nat.le_refl w.1.size));obtain⟨most,b1⟩:∃most,most=min (b.length-a) 255:=⟨_,rfl⟩;have cy:min ((b.length:Int)-(a:Int)) 255=(most:Int):=by omega
 have cw:a+most<=b.length:=by omega
 have cx:most<=255:=by omega
 have bi:N (Blk.longest b a=Blk.chain b a most (Blk.ahead b a) (Blk.ahead b a) ⟨0,0⟩):=by
  show _=_;rw[b1];exact Blk.chain_more (Blk.ahead_le b a) gQx
 obtain⟨aj,a2⟩:∃aj,aj=(w.alloc (qj #[I U 0,I U 0] 226)).alloc (qj #[I U 0,I U 0] 226):=⟨_,rfl⟩;have bj:N (pI w aj q b G A ⟨0,0⟩):=by
  obtain⟨bn,J,X,a1⟩:=zY w (qj #[I U 0,I U 0] 226) (qj #[I U 0,I U 0] 226);rw[<-a2] at bn J X a1;exact⟨X,bn,J,h.keep X bq bp,a7.on X⟩
 have be:=gQq (nX b G A a aj hb cd bj.out.look);have bk:=gQq a2;clear a2 h a7;go_enter func139,ntmps139;have ck:=Blk.ahead_le b a;obtain⟨R,bs⟩:∃R,R=Blk.longest b a:=⟨_,rfl⟩;rw[<-bs] at bi ⊢;clear bs b1;go_wp2_with fail;rw[<-bk.out];refine be.out.mono ?_;rintro e w' ⟨rfl,K⟩;rw[K];clear K w' be bk;go_wp2_with fail;go_loopw [9] (fun bc wr=>∃(g:Nat) (m:Blk.Mt),bc=I U ((g:Int)-1)∧g<=a∧m.size<=255∧m.back<=1024∧N (pI w wr q b G A m∧R=Blk.chain b a most g g m)) (fun bc _=>(intOf bc+1).toNat);case atStart=>exact⟨Blk.ahead b a,⟨0,0⟩,rfl,ck,by decide,by decide,bj.out,bi.out⟩
 case round=>
  obtain⟨g,m,rfl,ct,b2,b0,D⟩:=hrel;obtain⟨y,E⟩:=m;dsimp only at b2 b0;have S:wr.1[w.1.size+1]?=O (qj #[I U (y:Nat),I U (E:Nat)] 226 (0,0)):=D.out.1.best;have V:=D.out.1.res;have c0:wr.cell? ⟨w.1.size+1,0,Y⟩=O (I U (y:Nat)):=da S 0;have c1:wr.cell? ⟨w.1.size+1,1,Y⟩=O (I U (E:Nat)):=da S 1;have cq:=eF S 0;have f1:=eF S 1;have c2:wr.cell? ⟨w.1.size,0,Y⟩=O (I U 0):=da V 0;have c3:wr.cell? ⟨w.1.size,1,Y⟩=O (I U 0):=da V 1;have cr:=eF V 0;have cs:=eF V 1
  have Q:N (AX w.1.size w ((wr.setCell ⟨w.1.size,0,Y⟩ (I U (y:Nat))).setCell ⟨w.1.size,1,Y⟩ (I U (E:Nat)))∧((wr.setCell ⟨w.1.size,0,Y⟩ (I U (y:Nat))).setCell ⟨w.1.size,1,Y⟩ (I U (E:Nat))).1[w.1.size]?=O (qj #[I U (y:Nat),I U (E:Nat)] 226 (0,0))) :=
   ⟨(D.out.1.low.setCell (p:=⟨w.1.size,0,Y⟩) gQx _).setCell (p:=⟨w.1.size,1,Y⟩) gQx _,tm V _ _⟩
  have cp:=gQq (nG S);clear S V;cases g with
  |zero=>
   have ab:N (R=⟨y,E⟩):=D.out.2;clear D;go_wp2_with fail;refine bodyPost_ret (results_cell_row rfl _ _ w.1.size _ _ _ _ rfl Q.out.2 underlying226 rfl (by kernel_rfl)) rfl ?_;rw[ab.out];exact⟨rfl,Q.out.1⟩
  |succ k=>
   have ak:(((k+1:Nat):Int)-1)=(k:Int):=(by omega);rw[ak];have cu:k<a:=(by omega);have bv:((a:Int)-(k:Int))=((a-k:Nat):Int):=(by omega);by_cases ci:1024<a-k
   ·have ab:N (R=⟨y,E⟩):=D.out.2.trans (jJ (.inl ci));clear D ak;go_wp2_with fail;refine bodyPost_ret (results_cell_row rfl _ _ w.1.size _ _ _ _ rfl Q.out.2 underlying226 rfl (by kernel_rfl)) rfl ?_;rw[ab.out];exact⟨rfl,Q.out.1⟩
   by_cases cj:most<=y
   ·have ab:N (R=⟨y,E⟩):=D.out.2.trans (jJ (.inr cj));clear D ak;go_wp2_with fail;refine bodyPost_ret (results_cell_row rfl _ _ w.1.size _ _ _ _ rfl Q.out.2 underlying226 rfl (by kernel_rfl)) rfl ?_;rw[ab.out];exact⟨rfl,Q.out.1⟩
   have ah:N (R=Blk.chain b a most (Blk.ahead b k) (Blk.ahead b k) (if y<Blk.alike (b.drop k) ((b.drop a).take most) then ⟨Blk.alike (b.drop k) ((b.drop a).take most),a-k⟩ else ⟨y,E⟩)):=D.out.2.trans (pB (by show ¬(_∨most<=y);omega));have co:=fun w=>iB U q b.length c k (by omega) w;have bb:=fun w=>gw q b.length c a (a+most) (by omega) (by omega) w;have bX:(b.drop k).length=b.length-k:=Aj;have a6:((b.drop a).take most).length=most:=(by rw[AA,Aj];omega);have Z:N (∀n,Calls AW 172 #[mA (bH q k c) (b.drop k).length (c-k),mA (bH q a c) ((b.drop a).take most).length (c-a)] (wr.drewN n) fun e w'=>e=.returned (I U (Blk.alike (b.drop k) ((b.drop a).take most):Nat))∧w'=wr.drewN n):=fun n=>
    yE (b.drop k) ((b.drop a).take most) (bH q k c) (bH q a c) (c-k) (c-a) (wr.drewN n) (by omega) (by omega) (by omega) ((D.out.1.at_.cut10 k c bO).drewN n) (by
     have J:=(D.out.1.at_.cut10 a c bO).drewN n;rcases J with J | ⟨cc,cn,J,X,a1⟩
     ·exact .inl (by rw[J];simp)
     ·exact .inr ⟨cc,cn,J,X,cF a1 most⟩)
   rw[bX,a6] at Z;rw[show a+most-a=most by omega] at bb;have bN:=(Blk.alike_le (b.drop k) ((b.drop a).take most)).2;rw[a6] at bN;obtain⟨n,b3⟩:∃n,n=Blk.alike (b.drop k) ((b.drop a).take most):=⟨_,rfl⟩;rw[<-b3] at ah Z bN;obtain⟨b7,a8⟩:∃b7,b7=bH q k c:=⟨_,rfl⟩;obtain⟨b8,a9⟩:∃b8,b8=bH q a c:=⟨_,rfl⟩;obtain⟨b6,a5⟩:∃b6,b6=b.length-k:=⟨_,rfl⟩;obtain⟨b4,a3⟩:∃b4,b4=c-k:=⟨_,rfl⟩;obtain⟨b5,a4⟩:∃b5,b5=c-a:=⟨_,rfl⟩;rw[<-a8,<-a3,<-a5] at co;rw[<-a9,<-a4] at bb;rw[<-a8,<-a9,<-a3,<-a4,<-a5] at Z;have bl:((a+most:Nat):Int)=(a:Int)+(most:Int):=(by omega);rw[bl] at bb;have b9:=gQq bv;clear bl bv;have M:=gQq D.out.1;have cv:=Blk.ahead_le b k;clear bX a6 b3 a8 a9 a5 a3 a4 D Q ak;by_cases bT:y<n
   ·have aw:N (R=Blk.chain b a most (Blk.ahead b k) (Blk.ahead b k) ⟨n,a-k⟩):=by
     show _=_;rw[ah.out,AK bT]
    clear ah;go_wp2_with fail;go_quiet (first | (go_at_call 172;exact Calls.quiet_of_same (Z.out _)));go_wp2_with fail;rw[b9.out];have L:N (pI w (((wr.drewN nq).setCell ⟨w.1.size+1,0,Y⟩ (I U (n:Nat))).setCell ⟨w.1.size+1,1,Y⟩ (I U ((a-k:Nat):Int))) q b G A ⟨n,a-k⟩):=M.out.put cb.out bq bp ⟨n,a-k⟩ nq;generalize ((wr.drewN nq).setCell ⟨w.1.size+1,0,Y⟩ (I U (n:Nat))).setCell ⟨w.1.size+1,1,Y⟩ (I U ((a-k:Nat):Int))=a0 at L ⊢;refine(nX b G A k a0 hb (by omega) L.out.look).mono ?_;rintro e w' ⟨rfl,K⟩;rw[K];clear K w';go_wp2_with fail;go_roundw;case rel=>exact⟨Blk.ahead b k,⟨n,a-k⟩,rfl,by omega,by show n<=255;omega,by show a-k<=1024;omega,L.out,aw.out⟩
    case measure=>simp[intOf];omega
   ·have aw:N (R=Blk.chain b a most (Blk.ahead b k) (Blk.ahead b k) ⟨y,E⟩):=by
     show _=_;rw[ah.out,AJ bT]
    clear ah;go_wp2_with fail;go_quiet (first | (go_at_call 172;exact Calls.quiet_of_same (Z.out _)));go_wp2_with fail;have L:N (pI w (wr.drewN nq) q b G A ⟨y,E⟩):=⟨below_drewN M.out.low nq,M.out.res,M.out.best,⟨M.out.look.row,M.out.look.var⟩,M.out.at_.drewN nq⟩;generalize wr.drewN nq=a0 at L ⊢;refine(nX b G A k a0 hb (by omega) L.out.look).mono ?_;rintro e w' ⟨rfl,K⟩;rw[K];clear K w';go_wp2_with fail;go_roundw;case rel=>exact⟨Blk.ahead b k,⟨y,E⟩,rfl,by omega,b2,b0,L.out,aw.out⟩
    case measure=>simp[intOf];omega
end
section
open Go.RowKit
theorem gk{D:Array Oper}{o:Oper}{a:Act}{y:Act->wv->Prop}{K:Exit->Act->wv->Prop}{J:Prop}{f:FuncId}{fn:Func}{code:Code}{u:Value}{R:Ending->wv->Prop}(x E:Operand)(t a2:TypeId)(Z:o.guard=Y)(aj:o.op=Op.call { callee:=.value (.func f),args:=#[x,E],argTypes:=#[t,a2] })(a0:a.eval x=u)(a1:a.eval E=v)(X : Tryz.prog.funcs[f]?=O fn)(ah : (fn.name== "runtime.NumGoroutine")=false)(hb : fn.body=O code)(Q:Calls AW f #[u,v] w R)(M:∀e w',R e w'->∃z,e=.returned z∧y (a.put o.dst z) w'):
  if Region.wanted o (yielded D a.tmps)=true then Oper.wp AW o a w y K else J:=by
 have aw:Region.wanted o (yielded D a.tmps)=true:=by simp[Region.wanted,Z]
 rw[AK aw];have L : fn.name≠ "runtime.NumGoroutine" := by simpa using ah
 unfold Oper.wp;have S:(execOp a.eval o).run AW w=.ok (.enter f #[u,v]) w:=by
  have V:a.eval (.func f)=.func (.func f) #[] #[]:=rfl;simp[execOp,aj,resolve,invoke,a0,a1,V,Deferred.ofValue,callFunc,X,L,hb]
 rw[S,Oper.upon_enter];refine Q.mono ?_;intro e w' ak;obtain⟨z,rfl,ab⟩:=M e w' ak;exact ab
theorem pH{F:Nat->Prop}(h:Aside F w.drew w'):Aside F w w':=⟨h.os,h.tape,h.output,h.size,h.block⟩
structure sC(w w1 wr:wv)(q:OA)(b:L8)(G A:Nat)(v:Value)(p:L8):Prop where
 low:AX w.1.size w w1
 more:AX w1.1.size w1 wr
 look:nK wr G A b
 at_:AtB wr w1.1.size q b
 has:Has wr w1.1.size v p
theorem sC.next{w1:wv}{b:L8}{v':Value}{p y:L8}(h:sC w w1 wr q b G A v p)(E:G<w1.1.size)(D:A<w1.1.size)(hb:AX w1.1.size wr w')(J:Has w' w1.1.size v' y):sC w w1 w' q b G A v' y :=
 ⟨h.low,h.more.trans hb,h.look.keep hb E D,h.at_.keep hb,J⟩
theorem ti(p l:L8):(Blk.putL p l).length<=p.length+10+l.length:=by
 unfold Blk.putL;split
 ·omega
 ·have:=Leb.put_length_le (2*l.length);simp only[AU];omega
theorem tg(p:L8)(m:Blk.Mt):(Blk.putM p m).length<=p.length+20:=by
 unfold Blk.putM;have:=Leb.put_length_le (2*m.size+1);have:=Leb.put_length_le m.back;simp only[AU];omega
theorem mO(b:L8)(q:OA)(c:Nat)(w:wv)(hb:b.length<=2048)(bX:b.length<=c)(b2:At w q b):
    Calls AW 108 #[mA q b.length c] w fun e w'=>∃cq cap,e=.returned (mA cq (Blk.packT b).length cap)∧Has w' w.1.size (mA cq (Blk.packT b).length cap) (Blk.packT b)∧AX w.1.size w w':=by
  have b7:=gQq (vQ b q c w hb b2);have b8:=gQq b2;obtain⟨R,bN⟩:∃R,R=Blk.packT b:=⟨_,rfl⟩;have cv:N (R=Blk.pk b (b.length-0) 0 0 [1]):=bN;rw[<-bN];clear bN b2;go_enter func108,ntmps108;go_wp2_with fail;refine b7.out.mono ?_;rintro e w1 ⟨rfl,X,b0⟩;obtain⟨G,cd⟩:∃G,G=w.1.size+1+1:=⟨_,rfl⟩;obtain⟨A,cc⟩:∃A,A=w.1.size+1:=⟨_,rfl⟩;rw[<-cd] at X ⊢;rw[<-cc] at X;have bv:=X.var.lt;have bs:=X.row.lt;have b9:N (sC w w1 (w1.alloc (qj #[I .u8 1] 5)) q b G A (mA (O ⟨w1.1.size,0,Y⟩) 1 1) [1]):=by
    have bO:AX w1.1.size w1 (w1.alloc (qj #[I .u8 1] 5)):=gQy;exact⟨b0,bO,X.keep bO bv bs,((b8.out.on b0).atB gQx).keep bO,dB (B:=w1.1.size) [1] rfl gQx (by decide)⟩
  clear cd cc X b0 b7 b8;go_wp2_with fail;generalize w1.alloc (qj #[I .u8 1] 5)=d5 at b9 ⊢;go_loopw [4,5,6] (fun d2 d3 b5 wr=>∃(fr a:Nat) (p:L8),fr<=a∧a<=b.length∧d3=I U fr∧b5=I U a∧p.length<=60*fr+100∧N (sC w w1 wr q b G A d2 p∧R=Blk.pk b (b.length-a) fr a p)) (fun _ _ b5 _=>b.length-(intOf b5).toNat);case atStart=>exact⟨0,0,[1],gQx,Nat.zero_le _,rfl,rfl,by decide,b9.out,cv.out⟩
  case round=>
    obtain⟨fr,a,p,eb,d9,rfl,rfl,ec,Q⟩:=hrel;obtain⟨ah,cap,rfl,-,ea⟩:=Q.out.1.has.at;have D:=gQq Q.out.1;have b3:=D.out.more.size;by_cases b1:a<b.length
    · have bl:=gQq (tM b q c G A a wr hb bX b1 D.out.at_.at_ D.out.look);have bj:=Blk.longest_good b a;have a9:=gQq (fun L=>Q.out.2.trans (Blk.pk_skip (fr:=fr) (p:=p) b1 L));have bb:=gQq (fun L=>Q.out.2.trans (Blk.pk_take (fr:=fr) (p:=p) b1 L));obtain⟨m,ck⟩:∃m,m=Blk.longest b a:=⟨_,rfl⟩;rw[<-ck] at bl bj a9 bb;clear ck Q;go_wp2_with fail;refine bl.out.mono ?_;rintro e y ⟨rfl,be⟩;obtain⟨E,bc⟩:∃E,E=y.alloc (qj #[I U (m.size:Nat),I U (m.back:Nat)] 226):=⟨_,rfl⟩;have bT:AX wr.1.size wr E:=(by rw[bc];exact be.alloc be.size _);have a0:E.1[y.1.size]?=O (qj #[I U (m.size:Nat),I U (m.back:Nat)] 226 (0,0)):=(by rw[bc];exact io y _);have c0:E.cell? ⟨y.1.size,0,Y⟩=O (I U (m.size:Nat)):=da a0 0;have c1:E.cell? ⟨y.1.size,1,Y⟩=O (I U (m.back:Nat)):=da a0 1;have ak:N (sC w w1 E q b G A (mA ah p.length cap) p):=D.out.next bv bs (bT.mono b3) (D.out.has.on bT);have el:wr.1.size<=y.1.size:=be.size;have bp:=gQq bc;have d4:=gQq a0;have cp:=nG a0;have bn:N (∀k,(mA ah p.length cap).ownBlock=O k->k<wr.1.size):=fun k dj=>(D.out.has.lt k dj).2;clear be bT bc a0 bl;by_cases L:m.size=0
      · have V:=gQq (a9.out L);have cw:N (E=y.alloc (qj #[I U 0,I U (m.back:Nat)] 226)):=by
          have h:=bp.out;rw[L] at h;exact h
        clear a9 bb bj c0 bp;go_wp2_with fail;rw[<-cw.out];go_roundw;case rel=>exact⟨fr,a+1,p,by omega,by omega,rfl,by go_num,by omega,ak.out,V.out⟩
        case measure=>simp[intOf];omega
      · have bi:=bj.resolve_left L;have V:=gQq (bb.out L);have d8:((m.size:Int)==0)=false:=(by rw[AM];omega);have du:=bi.most;have dv:=bi.near;have d0:=bi.fits;have en:=bi.four;have b4:=fun w=>gw q b.length c fr a (by omega) (by omega) w;have S:((b.drop fr).take (a-fr)).length=a-fr:=(by rw[AA,Aj];omega);have bk:N (AtB E w1.1.size (bH q fr c) ((b.drop fr).take (a-fr))):=by
          have cb:=ak.out.at_.cut fr c bX;refine⟨?_,fun ds=>cb.low (fun c9=>ds (by rw[c9];simp))⟩;rcases cb.at_ with bq | ⟨c5,d1,bq,c7,c8⟩
          · exact .inl (by rw[bq];simp)
          · exact .inr ⟨c5,d1,bq,c7,cF c8 _⟩
        have K:=gQq (pW p ((b.drop fr).take (a-fr)) w1.1.size (mA ah p.length cap) (bH q fr c) (c-fr) E.drew (by show w1.1.size<=E.1.size;omega) (by omega) (by rw[S];omega) ak.out.has ⟨bk.out.at_,bk.out.low⟩);have co:=ti p ((b.drop fr).take (a-fr));rw[S] at K co;obtain⟨M,cn⟩:∃M,M=Blk.putL p ((b.drop fr).take (a-fr)):=⟨_,rfl⟩;rw[<-cn] at K V co;have eg:=tg M m;obtain⟨aj,a6⟩:∃aj,aj=bH q fr c:=⟨_,rfl⟩;obtain⟨Z,a4⟩:∃Z,Z=c-fr:=⟨_,rfl⟩;obtain⟨ab,a5⟩:∃ab,ab=a-fr:=⟨_,rfl⟩;rw[<-a6,<-a4,<-a5] at b4 K;clear cn a6 a4 a5 a9 bb bj S bk;go_wp2_with fail;rw[<-bp.out]
        go_region_law (first
          | (refine gk (u:=mA ah p.length cap) (v:=mA aj ab Z) (.tmp 24) (.tmp 28) 40 40 (by rfl) (by rfl) (by simp[Act.eval,Act.put]) (by simp[Act.eval,Act.put]) func141 (by kernel_rfl) (by rfl) K.out ?_;rintro e w4 ⟨a7,aw,rfl,a3,a1,cj⟩;refine⟨_,rfl,?_⟩;have J:Aside (fun k=>(mA ah p.length cap).ownBlock=O k) E w4:=pH a1;have c6:w4.cell? ⟨y.1.size,0,Y⟩=O (I U (m.size:Nat)):=(by rw[J.cell (p:=⟨y.1.size,0,Y⟩) cp (fun a2=>by have:=bn.out _ a2;exact absurd this (by show ¬y.1.size<wr.1.size;omega))];exact c0);have d7:w4.cell? ⟨y.1.size,1,Y⟩=O (I U (m.back:Nat)):=(by rw[J.cell (p:=⟨y.1.size,1,Y⟩) cp (fun a2=>by have:=bn.out _ a2;exact absurd this (by show ¬y.1.size<wr.1.size;omega))];exact c1);have a8:=gQq a3;have cr:=gQq J;have em:=J.size;have cu:=gQq cj;clear a3 a1 J cj)
          | (refine gk (u:=mA a7 M.length aw) (v:=.agg #[I U (m.size:Nat),I U (m.back:Nat)]) (.tmp 29) (.tmp 30) 40 226 (by rfl) (by rfl) (by simp[Act.eval]) (by simp[Act.eval]) func140 (by kernel_rfl) (by rfl) (vL M m w1.1.size (mA a7 M.length aw) _ (by show w1.1.size<=w4.1.size;omega) (by omega) du dv a8.out) ?_;rintro e w5 ⟨ep,d6,rfl,ci,J,dr⟩;refine⟨_,rfl,?_⟩;have ct:=gQq ci;have b6:N (Aside (fun k=>(mA a7 M.length aw).ownBlock=O k) w4 w5):=⟨J.os,J.tape,J.output,J.size,J.block⟩;have eq:w5.cell? ⟨y.1.size,0,Y⟩=O (I U (m.size:Nat)):=by
               rw[b6.out.cell (p:=⟨y.1.size,0,Y⟩) (by show y.1.size<w4.1.size;omega) (fun a2=>by
                 rcases cu.out _ a2 with h | h
                 · have:=bn.out _ h;exact absurd this (by show ¬y.1.size<wr.1.size;omega)
                 · exact absurd h (by show ¬E.1.size<=y.1.size;omega))]
               exact c6
             clear ci J dr)
          |fail)
        all_goals
          go_wp2_with fail;go_roundw;case rel=>
            have cx:AX w1.1.size E w4:=aB cr.out ak.out.has (by omega);have cy:AX w1.1.size w4 w5:=aB b6.out a8.out (by omega);refine⟨a+m.size,a+m.size,Blk.putM M m,gQx,d0,by go_num,by go_num,by omega,ak.out.next bv bs (cx.trans cy) ct.out,V.out⟩
          case measure=>simp[intOf];omega
    · have df:a=b.length:=(by omega);have V:=gQq (Q.out.2.trans (Blk.pk_end (by omega)));have b4:=fun w=>iB U q b.length c fr (by omega) w;have S:(b.drop fr).length=b.length-fr:=Aj;have K:=gQq (pW p (b.drop fr) w1.1.size (mA ah p.length cap) (bH q fr c) (c-fr) wr b3 (by omega) (by rw[S];omega) D.out.has (D.out.at_.cut fr c bX));rw[S,<-V.out] at K;obtain⟨aj,a6⟩:∃aj,aj=bH q fr c:=⟨_,rfl⟩;obtain⟨Z,a4⟩:∃Z,Z=c-fr:=⟨_,rfl⟩;obtain⟨ab,a5⟩:∃ab,ab=b.length-fr:=⟨_,rfl⟩;rw[<-a6,<-a4,<-a5] at b4 K;clear a6 a4 a5 S Q;subst df;go_wp2_with fail;refine K.out.mono ?_;rintro e w4 ⟨a7,aw,rfl,a3,a1,-⟩;have a8:=gQq a3;have cs:=gQq (aB a1 D.out.has b3);clear a3 a1;go_wp2;go_ret;refine⟨a7,aw,rfl,a8.out.lower D.out.low.size,D.out.low.trans ((D.out.more.mono D.out.low.size).trans (cs.out.mono D.out.low.size))⟩
theorem yX(b:L8)(q:OA)(c:Nat)(w:wv)(hb:b.length<=140737488351232)(a6:b.length<=c)(M:At w q b):
    Calls AW 79 #[mA q b.length c] w (zI w (Blk.pack b)):=by
  obtain⟨R,y⟩:∃R,R=Blk.pack b:=⟨_,rfl⟩;rw[<-y];unfold Blk.pack at y;by_cases Z:2048<b.length
  · rw[AK Z] at y;have D:=gQq y;clear y;go_enter func79,ntmps79;go_wp2;go_ret2;rw[D.out];exact⟨Y,0,0,rfl,rfl,bF _ _,gQz⟩
  · rw[AJ Z] at y;have X:=gQq (mO b q c w (by omega) a6 M);have a2:=gQq M;obtain⟨p,aj⟩:∃p,p=Blk.packT b:=⟨_,rfl⟩;rw[<-aj] at X y;have J:=gQq y;clear aj M y;go_enter func79,ntmps79;go_wp2_with fail;refine X.out.mono ?_;rintro e w1 ⟨a8,a4,rfl,E,L⟩;have a1:=gQq E;have K:=gQq L;have Q:=L.size;clear E L;by_cases ab:p.length<=b.length
    · have D:N (R=⟨0,p⟩):=(by show _=_;rw[J.out,AK ab]);clear J;go_wp2;go_ret2;rw[D.out];exact⟨a8,_,a4,rfl,rfl,a1.out,K.out⟩
    · have D:N (R=⟨0,0::b⟩):=(by show _=_;rw[J.out,AJ ab]);clear J;have V:N (Has (w1.alloc (qj #[I .u8 0] 5)) w1.1.size (mA (O ⟨w1.1.size,0,Y⟩) 1 1) [0]):=dB (B:=w1.1.size) [0] rfl gQx (by decide);have ak:N (At (w1.alloc (qj #[I .u8 0] 5)) q b):=(a2.out.on K.out).on gQy;have a0:N (AX w.1.size w (w1.alloc (qj #[I .u8 0] 5))):=K.out.alloc Q _
      go_wp2_with (first|(at_builtin;refine aC (xs:=[0]) V.out ak.out (by simp;omega) (by simp) rfl rfl rfl rfl rfl ?_;intro bb a9 a5 W a3 E ah a7;have S:=gQq E;have aw:=gQq (aB ah V.out (by simp));clear E ah a7)|fail)
      go_ret2;rw[D.out];have e:bb=0::b:=a3.out;rw[e] at S;rw[e];exact⟨a9,_,a5,rfl,rfl,S.out.lower Q,a0.out.trans (aw.out.mono Q)⟩
end
end Go.Proofs.YtngmnfdaedlodaaGreatDoor
