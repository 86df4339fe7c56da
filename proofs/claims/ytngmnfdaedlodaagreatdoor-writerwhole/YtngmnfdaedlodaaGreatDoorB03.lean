import Derived.Test.YtngmnfdaedlodaaGreatDoorB02
import Derived.Deep.RegionHeld3
set_option maxRecDepth 100000
set_option maxHeartbeats 4000000
namespace Go.Proofs.YtngmnfdaedlodaaGreatDoor
open Go.Proofs.Tryz
open Option renaming some->I,none->U
open Go.Value renaming slice->Y,int->O,pointer->qq,tuple->qv
open Go renaming World->F,Calls->AB
open Go.IntKind renaming i64->R
open Go.Proofs.Tryz renaming prog->N
open Go.Obj renaming cells->wx
open Go.Ending renaming returned->wv
open Go.RowKit renaming Below->AC
variable{B ah cap' g k la o s':Nat}{W W' w w':F}{l xs ys zs:L8}{v:Value}{p:OA}{T:TypeId}
section
open Go.RowKit
def iA(l:L8)(k:Nat):Prop:=k<=l.length∧(∀j (h:j<l.length),j<k->l[j]≠0)∧∀h:k<l.length,l[k]=0
theorem lK(b o c:Nat)(l:L8)(ab:l.length<=140737488351232)(w:F)(J:cT w b o l):
    AB N 98 #[Y (I ⟨b,o,U⟩) l.length c] w fun e w'=>∃k:Nat,e=wv (O R k)∧iA l k∧w'=w:=by
  have M:=gQq J;clear J;go_enter func98,ntmps98;go_wp2;go_loop [3,4,7] (fun _ _ K=>∃i:Nat,i<=l.length∧K=O R i∧Hid (∀j (h:j<l.length),j<i->l[j]≠0)) (fun _ _ K=>l.length-(intOf K).toNat);case atStart=>exact⟨0,by omega,rfl,fun j _ L=>by omega⟩
  case round=>
    obtain⟨i,Z,rfl,y⟩:=hrel;by_cases V:i<l.length
    · have X:=M.out i V;have ai:(i:Int)<(l.length:Int):=(by omega);by_cases A:l[i]=0
      · have E:Hid (iA l i):=⟨by omega,y.out,fun _=>A⟩;have hb:((l[i].toNat:Int)==0)=true:=(by rw[A];rfl);clear y A;go_wp2;go_ret;exact⟨i,rfl,E.out,rfl⟩
      · have Q:Hid (∀j (h:j<l.length),j<i+1->l[j]≠0):=fun j h L=>by
          rcases Nat.lt_succ_iff_lt_or_eq.1 L with D | D
          · exact y.out j h D
          · subst D;exact A
        have hb:((l[i].toNat:Int)==0)=false:=by
          rw[BQ];intro J
          exact A (UInt8.toNat_inj.1 (by have:l[i].toNat=0:=(by omega);rw[this];rfl))
        clear y A;go_wp2;go_round;case rel=>exact⟨i+1,by omega,by go_num,Q⟩
        case measure=>simp[intOf];omega
    · have S:i=l.length:=(by omega);subst S;have E:Hid (iA l l.length):=⟨gQx,y.out,fun h=>by omega⟩;clear y;go_wp2;go_ret;exact⟨_,rfl,E.out,rfl⟩
theorem jB(p:OA)(c:Nat)(w:F):
  AB N 98 #[Y p 0 c] w fun e w'=>e=wv (O R 0)∧w'=w:=by
 go_enter func98,ntmps98;go_wp2;go_loop [3,4,7] (fun _ _ y=>y=O R 0) (fun _ _ _=>0);case atStart=>exact rfl
 case round=>
  subst hrel;go_wp2;go_ret;exact⟨rfl,rfl⟩
theorem gH(p:OA)(c:Nat)(l:L8)(A:l.length<=140737488351232)(w:F)(h:At w p l):
  AB N 98 #[Y p l.length c] w fun e w'=>∃k:Nat,e=wv (O R k)∧iA l k∧w'=w:=by
 rcases h with rfl | ⟨b,o,rfl,_,y⟩
 ·refine(jB p c w).mono ?_;rintro e w' ⟨rfl,rfl⟩;exact⟨0,rfl,⟨gQx,fun j h=>by simp at h,fun h=>by simp at h⟩,rfl⟩
 ·exact lK b o c l A w y
end
section
open Go.RowKit
theorem gM{b:Nat}(h:At w (I ⟨b,o,U⟩) l)(k:Nat):At w (I ⟨b,o+k,U⟩) (l.drop k):=by
 rcases h with rfl | ⟨b,o,D,y,A⟩
 ·exact .inl (by simp)
 ·cases D
  exact .inr ⟨_,_,rfl,y,dL A k⟩
theorem at_take(h:At w p l)(k:Nat):At w p (l.take k):=by
 rcases h with rfl | ⟨b,o,rfl,y,A⟩
 ·exact .inl (by simp)
 ·exact .inr ⟨b,o,rfl,y,cF A k⟩
section
open Cob
theorem oj{a m:Nat}(h:Writing l a true xs)(aw:m=min (l.length-a) 254)(X:iA ((l.drop a).take m) k):
  (k=l.length-a->stuff l=xs++[UInt8.ofNat (k+1)]++(l.drop a).take k)∧(k<l.length-a->k<254->Writing l (a+k+1) true (xs++[UInt8.ofNat (k+1)]++(l.drop a).take k)) ∧
  (k<l.length-a->¬k<254->Writing l (a+k) true (xs++[UInt8.ofNat (k+1)]++(l.drop a).take k))∧k<=254∧k<=l.length-a∧xs.length+1+k<=l.length+1+l.length / 254:=by
 obtain⟨Q,S,V⟩:=X;have aj:=h.1;have J:((l.drop a).take m).length=m:=by rw[AM,AL];omega
 rw[J] at Q;have K:∀j,j<k->∀h:a+j<l.length,l[a+j]≠0:=fun j ab ak=>by
  have:=S j (by rw[J];omega) ab;rwa [List.getElem_take,List.getElem_drop] at this
 have E:∀ys:L8,ys=xs++[UInt8.ofNat (k+1)]++(l.drop a).take k->ys.length<=l.length+1+l.length / 254->xs.length+1+k<=l.length+1+l.length / 254:=fun ys e L=>by
  rw[e] at L;simp only[AH,AI,List.length_nil,AM,AL] at L;omega
 by_cases D:k<254
 ·by_cases Z:a+k=l.length
  ·have y:=writing_end h D Z K;exact⟨fun _=>y.2.2 rfl,fun A=>by omega,fun A=>by omega,by omega,by omega,E _ rfl (writing_bound y)⟩
  ·have M:l[a+k]'(by omega)=0:=by
    have:=V (by rw[J];omega);rwa [List.getElem_take,List.getElem_drop] at this
   have y:=writing_zero h D (by omega) K M;exact⟨fun A=>by omega,fun _ _=>y,fun _ A=>absurd D A,by omega,by omega,E _ rfl (writing_bound y)⟩
 ·have ai:k=254:=by omega
  subst ai;have y:=writing_full h (by omega) K;refine⟨fun A=>y.2.2 (AP (by omega)),fun _ A=>absurd A D,fun A _=>?_,by omega,by omega,E _ rfl (writing_bound y)⟩;rw[AR (show a+254<l.length by omega)] at y;exact y
end
theorem dn{P:Program}{f:FuncId}{fn:Func}{c:Code}(A : P.funcs[f]?=I fn)(D : (fn.name== "runtime.NumGoroutine")=false)(hb : fn.body=I c)(args : AV)(w : F):
  (callFunc f args).run P w=.ok (.enter f args) w:=by
 have y : fn.name≠ "runtime.NumGoroutine" := by simpa using D
 simp[callFunc,A,y,hb]
def oS:Value->Nat
 |Y _ n _=>n
 |_=>0
theorem eU(f:FuncId)(g:Addr)(A:L8->F->Prop)(p:OA)(c:Nat)(l:L8)(w:F)(bj:l.length<=1073741824)(a8:l.length<=c)(bb:∀(args:AV) (w:F),(callFunc f args).run N w=.ok (.enter f args) w)(ab:∀xs w',A xs w'->At w' p l)(aj:A [] w)(aw:∀xs q k t w',A xs w'->(∀ys E,A ys E->At E q t)->t.length<=254->xs.length+1+t.length<=2147483648->t.length<=k ->
   AB N f #[Y q t.length k,qq (I g)] w' fun e E=>e=wv (qv #[])∧A (xs++[UInt8.ofNat (t.length+1)]++t) E):
  AB N 129 #[Y p l.length c,.func (.func f) #[] #[qq (I g)]] w fun e w'=>e=wv (qv #[])∧A (Cob.stuff l) w':=by
 have a3:=gQq ab;have a4:=gQq aj;have a6:=gQq aw;clear ab aj aw;go_enter func129,ntmps129;go_wp2;go_loopw [0,4] (fun S _ wr=>∃(a n:Nat) (xs:L8) (q:OA) (d:Nat),a+n=l.length∧S=Y q n d∧n<=d∧Hid ((∀ys w',A ys w'->At w' q (l.drop a))∧Cob.Writing l a true xs∧A xs wr)) (fun S _ _=>oS S);case atStart=>exact⟨0,l.length,[],p,c,by omega,rfl,a8,a3.out,Cob.writing_start l,a4.out⟩
 case round=>
  obtain⟨a,n,xs,q,d,bc,rfl,bn,y⟩:=hrel;obtain⟨m,a1⟩:∃m,m=min (l.length-a) 254:=⟨_,rfl⟩;have bl:(if (254:Int)<(n:Int) then (254:Int) else (n:Int))=(m:Int):=by split <;> omega
  have bk:m<=d:=by omega
  have a2:((l.drop a).take m).length=m:=by rw[AM,AL];omega
  have L:=gH q d ((l.drop a).take m) (by omega) wr (at_take (y.out.1 _ _ y.out.2.2) m);rw[a2] at L;have X:=gQq L;have a5:=gQq a1;clear L a1 a2;go_wp2_with fail;refine X.out.mono ?_;rintro e w1 ⟨k,rfl,ai,rfl⟩;have D:=gQq (oj y.out.2.1 a5.out ai);have bi:k<=n:=by have:=D.out.2.2.2.2.1;omega
  have be:=D.out.2.2.2.1;have bp:=D.out.2.2.2.2.2;have a0:((l.drop a).take k).length=k:=by rw[AM,AL];omega
  have Q:=a6.out xs q d ((l.drop a).take k) w1 y.out.2.2 (fun ys E h=>at_take (y.out.1 ys E h) k) (by omega) (by omega) (by omega);rw[a0] at Q;have V:=gQq Q;clear ai Q a0 X;go_wp2_with fail;refine V.out.mono ?_;rintro e bs ⟨rfl,ak⟩;have K:=gQq ak;clear ak V;by_cases a7:k=n
  ·subst a7;have bq:((k:Int)-(k:Int)==0)=true:=(by simp);go_wp2
   all_goals
    refine bodyPost_ret (results_none rfl _ _ _) rfl ?_;rw[D.out.1 (by omega)];exact⟨rfl,K.out⟩
  ·obtain⟨b,o,rfl,-⟩:=aP (y.out.1 _ _ K.out) (by rw[AL];omega);by_cases Z:k<254
   ·have a9:(k:Int)<254:=(by omega);go_wp2;go_roundw;case rel=>
     refine⟨a+k+1,n-k-1,_,_,_,by omega,rfl,by omega,fun ys w' M=>?_,D.out.2.1 (by omega) Z,K.out⟩;have J:=gM (gM (y.out.1 ys w' M) k) 1;rw[Ax,Ax] at J;split
     ·exact .inl (List.drop_eq_nil_of_le (by omega))
     ·exact J
    case measure=>simp[oS];omega
   ·go_wp2;go_roundw;case rel=>
     refine⟨a+k,n-k,_,_,_,by omega,rfl,by omega,fun ys w' M=>?_,D.out.2.2.1 (by omega) Z,K.out⟩;have J:=gM (y.out.1 ys w' M) k;rw[Ax] at J;exact J
    case measure=>simp[oS];omega
end
section
open Go.RowKit
theorem one_cell{b:Nat}(h:w.1[b]?=I (wx #[v] T (0,0))):w.cell? ⟨b,0,U⟩=I v:=by
 simp[World.cell?,h]
theorem bY{b:Nat}(h:w.1[b]?=I (wx #[v] T (0,0))):w.frozen? ⟨b,0,U⟩=false:=by
 simp[World.frozen?,h]
theorem one_set{b:Nat}(h:w.1[b]?=I (wx #[v] T (0,0)))(u:Value):(w.setCell ⟨b,0,U⟩ u).1[b]?=I (wx #[u] T (0,0)):=by
 simp[World.setCell,Array.getElem?_modify,h]
theorem tH{b:Nat}{o:Obj}(h:w.1[b]?=I o):b<w.1.size:=(Array.getElem?_eq_some_iff.1 h).1
structure Var(w:F)(B g s cap:Nat)(xs:L8):Prop where
 box:w.1[g]?=I (wx #[Y (I ⟨s,0,U⟩) xs.length cap] 40 (0,0))
 mine:br w B s cap xs
theorem oR{s cap:Nat}(h:br w B s cap xs):∃y,w.1[s]?=I (wx y 5 (0,0)):=by
 rcases h.2 with ⟨A,_⟩ | ⟨g,c,y,A,_,D,_⟩
 ·cases A
 ·cases A;exact⟨y,D⟩
theorem ft{s cap:Nat}{C:AV}(h:br w B s cap xs)(y:w.1[g]?=I (wx C T (0,0)))(A:T≠5):s≠g:=by
 rintro rfl;obtain⟨E,D⟩:=oR h;rw[D] at y;injection y with h1;injection h1 with h2 h3;exact A h3.symm
theorem dK{s cap b:Nat}(h:br w B s cap xs)(A:w.grownBy W (I b))(D:s≠b):br W B s cap xs :=
 World.ownsRow.kept h A (.inr (fun y=>D (Option.some.inj y)))
theorem bH(W:F)(b:Nat)(v:Value):W.grownBy (W.setCell ⟨b,0,U⟩ v) (I b) :=
 ⟨rfl,rfl,rfl,by simp[World.setCell],fun i _ A=>Below.heap_setCell _ _ _ _ (fun y=>A (by rw[y]))⟩
theorem nD{a b c:F}{row:Option Nat}(h:a.grownBy b row)(k:b.grownBy c row):a.grownBy c row :=
 ⟨k.os.trans h.os,k.tape.trans h.tape,k.output.trans h.output,AT h.size k.size,fun i y A=>(k.block i (AS y h.size) A).trans (h.block i y A)⟩
theorem pj(w:F)(row:Option Nat):w.grownBy w row:=⟨rfl,rfl,rfl,gQx,fun _ _ _=>rfl⟩
theorem Var.ne{s cap:Nat}(h:Var w B g s cap xs):s≠g:=ft h.mine h.box (by decide)
theorem Var.still{s cap:Nat}(h:Var w B g s cap xs)(A:w.grownBy W (I s)):W.1[g]?=I (wx #[Y (I ⟨s,0,U⟩) xs.length cap] 40 (0,0)) :=
 (A.block g (tH h.box) (fun y=>h.ne (Option.some.inj y).symm)).trans h.box
theorem fm{s cap n:Nat}(hb:W.1[g]?=I (wx #[Y (I ⟨s,0,U⟩) n cap] 40 (0,0)))(y:br W B s' cap' ys):
  Var (W.setCell ⟨g,0,U⟩ (Y (I ⟨s',0,U⟩) ys.length cap')) B g s' cap' ys :=
 ⟨one_set hb _,dK y (bH W g _) (ft y hb (by decide))⟩
theorem mF(B s cap:Nat)(xs l:L8)(p:OA)(c:Nat)(w:F)(J:br w B s cap xs)(h:At w p l)(a2:xs.length+l.length<=140737488355328)(X:B<=w.1.size):
  ∃(s' cap':Nat) (W:F),cA N 40 40 40 (Y (I ⟨s,0,U⟩) xs.length cap) (Y p l.length c) w (Y (I ⟨s',0,U⟩) (xs++l).length cap') W∧br W B s' cap' (xs++l)∧w.grownBy W (I s):=by
 obtain⟨i,Q,a1,S,Z⟩:=info_parts iI;cases p with
 |none=>
  have V:l=[]:=by
   rcases h with rfl | ⟨b,o,L,_,_⟩
   ·rfl
   ·cases L
  subst V;have M:=run_append_room_src (P:=N) w 40 40 40 5 i underlying40 Q s 0 xs.length cap (Y U 0 c) 0 [] (by rw[S];exact gX c h) (by have:=J.base.2.2;omega) (fun j y=>by simp at y) (fun j y=>by simp at y);refine⟨s,cap,w,⟨?_⟩,by rw[Az];exact J,pj _ _⟩;rw[Az];exact M
 |some a=>
  have ai:∀j u,(cellsOf l)[j]?=I u->w.cell? (a.add j)=I u:=fun j u y=>by
   have E:j<l.length:=by
    have:=(List.getElem?_eq_some_iff.1 y).1;simpa[cellsOf] using this
   rcases h with rfl | ⟨b,o,L,_,ab⟩
   ·simp at E
   ·cases L
    rw[bC l j E] at y;cases y
    rw[Lib.add_plain];exact ab j E
  obtain⟨v',W,M,K,ak,aw⟩:=run_append_own (P:=N) w B 40 40 5 i (O .u8 0) 1 1 underlying40 Q a1 S Z rfl (by decide) _ xs.length (cellsOf xs) J a l.length c (cellsOf l) (by rw[aX,Nat.mul_one]) ai
   (fun u a0=>by obtain⟨_,_,rfl⟩:=List.mem_map.1 a0;rfl) (by unfold maxLen;omega) (by omega) X
  rw[<-bZ,<-AH] at K;have aj:∃A cap',v'=Y (I ⟨A,0,U⟩) (xs++l).length cap':=by
   rcases K.2 with ⟨D,_⟩ | ⟨A,cap',_,D,_⟩
   ·have:=(aw.1 D).1;cases this
   ·exact⟨A,cap',D⟩
  obtain⟨A,cap',rfl⟩:=aj;exact⟨A,cap',W,⟨M⟩,K,ak⟩
theorem mq{s cap:Nat}(aj:br w B s cap xs)(c:UInt8)(Z:xs.length+1<=140737488355328)(J:B<=w.1.size){z:Int}{D:Array Oper}{rest:List Oper}{o:Oper}{a:Act}{y:Exit->Act->F->Prop}{E x:Operand}(a3:z=(c.toNat:Int))(a1:o.type=40)(Q:o.guard=U)(ai:o.op=Op.call { callee:=Callee.builtin Builtin.append,args:=#[E,x],argTypes:=#[40,40] })(a0:a.eval E=Y (I ⟨s,0,U⟩) xs.length cap){ad:Nat}(a2:a.eval x=Y (I ⟨ad,0,U⟩) 1 1)(L:ad=w.1.size)(K:∀ys s' cap' W,Hid (ys=xs++[c])->br W B s' cap' ys->w.grownBy W (I s)->wpList N D y rest (a.put o.dst (Y (I ⟨s',0,U⟩) ys.length cap')) W):
  wpList N D y (o::rest) a (w.alloc (wx #[O .u8 z] 5)):=by
 subst L;have M:At (w.alloc (wx #[O .u8 z] 5)) (I ⟨w.1.size,0,U⟩) [c]:=by
  refine .inr ⟨_,_,rfl,by simp,fun j V=>?_⟩;have X:j=0:=by simp at V;omega
  subst X;rw[World.cell?_alloc_new,a3];rfl
 have A:=World.grownBy_alloc w (wx #[O .u8 z] 5) (I s);obtain⟨s',cap',W,ak,ab,S⟩:=mF B s cap xs [c] (I ⟨w.1.size,0,U⟩) 1 _ (World.ownsRow.alloc aj _) M (by simpa using Z) (AT J A.size);have aw:cA N 40 40 o.type (Y (I ⟨s,0,U⟩) xs.length cap) (Y (I ⟨w.1.size,0,U⟩) 1 1) (w.alloc (wx #[O .u8 z] 5)) (Y (I ⟨s',0,U⟩) (xs++[c]).length cap') W:=by rw[a1];exact ak
 exact aQ aw Q ai a0 a2 (K _ s' cap' W (gQq rfl) ab (nD A S))
theorem jg{s cap:Nat}(V:br w B s cap xs)(h:At w p l)(M:xs.length+l.length<=140737488355328)(E:B<=w.1.size){A:Array Oper}{rest:List Oper}{o:Oper}{a:Act}{y:Exit->Act->F->Prop}{D x:Operand}(ai:o.type=40)(K:o.guard=U)(S:o.op=Op.call { callee:=Callee.builtin Builtin.append,args:=#[D,x],argTypes:=#[40,40] })(ab:a.eval D=Y (I ⟨s,0,U⟩) xs.length cap)(aj:a.eval x=Y p l.length k)(J:∀ys s' cap' W,Hid (ys=xs++l)->br W B s' cap' ys->w.grownBy W (I s)->wpList N A y rest (a.put o.dst (Y (I ⟨s',0,U⟩) ys.length cap')) W):
  wpList N A y (o::rest) a w:=by
 obtain⟨s',cap',W,X,Q,L⟩:=mF B s cap xs l p k w V h M E;have Z:cA N 40 40 o.type (Y (I ⟨s,0,U⟩) xs.length cap) (Y p l.length k) w (Y (I ⟨s',0,U⟩) (xs++l).length cap') W:=by rw[ai];exact X
 exact aQ Z K S ab aj (J _ s' cap' W (gQq rfl) Q L)
end
section
open Go.RowKit
def yV(w:F)(xs:L8)(w':F):Prop:=AC w.1.size w w'∧w'.1[w.1.size]?=I (wx #[O R xs.length] 3 (0,0))
theorem tV(w:F)(xs t:L8)(q:OA)(k:Nat)(w':F)(h:yV w xs w')(hb:xs.length+1+t.length<=2147483648):
  AB N 163 #[Y q t.length k,qq (I ⟨w.1.size,0,U⟩)] w' fun e y=>e=wv (qv #[])∧yV w (xs++[UInt8.ofNat (t.length+1)]++t) y:=by
 have A:=one_cell h.2;have D:=bY h.2;have H:=gQq h;clear h;go_enter func163,ntmps163;go_wp2;go_end0;refine⟨rfl,H.out.1.setCell gQx _,?_⟩;rw[one_set H.out.2];simp;omega
theorem Ah(p:OA)(c:Nat)(l:L8)(w:F)(E:l.length<=1073741824)(J:l.length<=c)(h:At w p l):
  AB N 128 #[Y p l.length c] w fun e w'=>e=wv (O R ((Cob.stuff l).length:Nat))∧AC w.1.size w w':=by
 have A:=gQq h;clear h;go_enter func128,ntmps128;go_wp2_with fail;refine(eU 163 ⟨w.1.size,0,U⟩ (yV w) p c l _ E J (fun args w=>dn func163 (by kernel_rfl) rfl args w) (fun xs w' y=>A.out.on y.1) ?_ (fun xs q k t w' y _ _ hb _=>tV w xs t q k w' y hb)).mono ?_
 ·exact⟨gQy,aV w _⟩
 ·rintro e w1 ⟨rfl,y⟩;have K:=one_cell y.2;have D:=gQq y.1;clear y;go_wp2;go_ret;exact⟨rfl,D.out⟩
end
section
open Go.RowKit
def xh(w:F)(g:Nat)(xs:L8)(w':F):Prop:=AC w.1.size w w'∧w.1.size<=g∧∃s cap,Var w' w.1.size g s cap xs
theorem gW{s:Nat}(h:AC w.1.size w W)(D:w.1.size<=s)(y:W.grownBy W' (I s)):AC w.1.size w W' :=
 h.grown y h.size (fun k A=>by cases A;exact D)
theorem s8(w:F)(g:Nat)(xs t:L8)(q:OA)(k:Nat)(w':F)(h:xh w g xs w')(aj:∀ys K,xh w g ys K->At K q t)(a8:t.length<=254)(hb:xs.length+1+t.length<=2147483648):
    AB N 130 #[Y q t.length k,qq (I ⟨g,0,U⟩)] w' fun e K=>e=wv (qv #[])∧xh w g (xs++[UInt8.ofNat (t.length+1)]++t) K:=by
  obtain⟨M,J,s,cap,Q⟩:=h;have be:=one_cell Q.box;have a7:(UInt8.ofNat (t.length+1)).toNat=t.length+1:=Cob.len_byte _ a8;have a3:=gQq aj;have A:=gQq Q;have a1:=gQq M;have a6:=M.size;clear Q M aj;generalize UInt8.ofNat (t.length+1)=Z at a7;go_enter func130,ntmps130
  go_wp2_with (first|(at_builtin;refine mq A.out.mine Z (by omega) a6 (by omega) rfl rfl rfl rfl rfl rfl ?_;intro ys ak V bb S ab D;have bl:=bY (A.out.still D);have bi:=one_cell (A.out.still D);have y:=gQq (fm (A.out.still D) ab);have L:=gQq ((gW a1.out A.out.mine.base.1 D).setCell (p:=⟨g,0,U⟩) J (Y (I ⟨ak,0,U⟩) ys.length V));have bj:=one_cell y.out.box;have a0:=gQq (a3.out _ _ ⟨L.out,J,ak,V,y.out⟩);have bp:ys.length<=xs.length+1:=(by rw[S.out];simp);clear ab D)|(at_builtin;refine jg y.out.mine a0.out (by omega) L.out.size rfl rfl rfl rfl rfl ?_;intro zs aw X bc a5 ai E;have bn:=bY (y.out.still E);have bk:=one_cell (y.out.still E);have a4:=gQq (fm (y.out.still E) ai);have a2:=gQq ((gW L.out y.out.mine.base.1 E).setCell (p:=⟨g,0,U⟩) J (Y (I ⟨aw,0,U⟩) zs.length X));clear ai E))
  go_end0;have a9:zs=xs++[Z]++t:=by rw[a5.out,S.out]
  rw[<-a9];exact⟨rfl,a2.out,J,aw,X,a4.out⟩
theorem ll(p:OA)(c:Nat)(l:L8)(w:F)(Z:l.length<=1073741824)(ab:l.length<=c)(h:At w p l):
    AB N 95 #[Y p l.length c] w fun e w'=>∃g o cap,e=wv (Y (I ⟨g,o,U⟩) (Cob.stuff l).length cap)∧fD w' g o (Cob.stuff l)∧w.1.size<=g∧(Cob.stuff l).length<=cap∧AC w.1.size w w':=by
  obtain⟨a8,A,a5,a6,a7⟩:=info_parts iI;have aj:=gQq h;have a1:=(Cob.stuff_length l).2;obtain⟨n,J⟩:∃n,n=(Cob.stuff l).length:=⟨_,rfl⟩;have M:=gQq (Ah p c l w Z ab h);rw[<-J] at M a1;clear h;have a9:=gQq J;clear J;go_enter func95,ntmps95;go_wp2_with fail;refine M.out.mono ?_;rintro e w1 ⟨rfl,E⟩;have ak:=gQq E;have Q:=E.size;clear E
  go_wp2_with (first|(at_make;refine wpList_make_own _ rfl _ _ 40 rfl w.1.size 5 a8 (O .u8 0) 1 underlying40 A a5 a6 R R n n rfl rfl rfl (by rw[a7];omega) (by unfold maxLen;omega) Q ?_;intro y ai X;have a0:Hid (br y w.1.size w1.1.size n []):=ai;have L:=gQq X;clear ai X)|fail)
  have be:w1.1.size<=y.1.size:=L.out.size;have S:AC w.1.size w y:=ak.out.grown L.out Q (fun k a2=>by cases a2);refine(eU 130 ⟨y.1.size,0,U⟩ (xh w y.1.size) p c l _ Z ab (fun args w=>dn func130 (by kernel_rfl) rfl args w) (fun xs w' A=>aj.out.on A.1) ?_ (fun xs q k t w' A a3 a4 hb _=>s8 w y.1.size xs t q k w' A a3 a4 hb)).mono ?_
  · exact⟨S.alloc (by omega) _,by omega,w1.1.size,n,⟨aV y _,World.ownsRow.alloc a0.out _⟩⟩
  · rintro e bi ⟨rfl,V,bc,s,cap,K⟩;have bb:=one_cell K.box;have aw:=gQq V;have D:=gQq K;clear V K S;go_wp2;go_ret;exact⟨s,0,cap,rfl,D.out.mine.free,D.out.mine.base.1,D.out.mine.base.2.2,aw.out⟩
end
section
open Go.RowKit
theorem iR(p:OA)(c:Nat)(v:Value)(w:F):AB N 99 #[Y p 0 c,v] w fun e w'=>e=wv (O R 30)∧w'=w:=by
 go_enter func99,ntmps99;go_wp2;go_ret;exact⟨rfl,rfl⟩
theorem ke(f:FuncId)(V X Z:Addr)(y:L8->Nat->Nat->F->Prop)(b o c:Nat)(l:L8)(w:F)(b4:l.length<=140737488351232)(bs:l.length<=c)(ak:l≠[])(bc:Cob.Nz l)(b1:∀(args:AV) (w:F),(callFunc f args).run N w=.ok (.enter f args) w)(a5:∀ys la ah w',y ys la ah w'->At w' (I ⟨b,o,U⟩) l)(a6:y [] 0 0 w)(a7:∀ys la ah q k t w',y ys la ah w'->(∀ys la ah D,y ys la ah D->At D q t)->t.length<=254->ys.length+t.length+1<=140737488355328->la<=254 ->
   AB N f #[Y q t.length k,qq (I V),qq (I X),qq (I Z)] w' fun e D=>e=wv (qv #[])∧y (ys++t++if t.length<254 then [0] else []) t.length la D):
  AB N 99 #[Y (I ⟨b,o,U⟩) l.length c,.func (.func f) #[] #[qq (I V),qq (I X),qq (I Z)]] w fun e w'=>
   ∃ys la ah,y ys la ah w'∧((e=wv (O R 30)∧Cob.un l=(30,[]))∨(e=wv (O R 0)∧Cob.Rd l l.length ys la ah)):=by
 have bi:=gQq a5;have bj:=gQq a6;have bl:=gQq a7;have a3:=gQq bc;have b9:0<l.length:=List.length_pos_iff.2 ak;have bk:=gQq ak;have b8:((l.length:Int)==0)=false:=by rw[BQ];omega
 clear a5 a6 a7 bc ak;go_enter func99,ntmps99;go_wp2;go_loopw [0,5] (fun aw _ wr=>∃(a n:Nat) (ys:L8) (la ah:Nat) (q:OA) (d:Nat),a+n=l.length∧aw=Y q n d∧n<=d∧Hid ((∀ys la ah w',y ys la ah w'->At w' q (l.drop a))∧Cob.Rd l a ys la ah∧y ys la ah wr)) (fun aw _ _=>oS aw);case atStart=>exact⟨0,l.length,[],0,0,_,c,by omega,rfl,bs,bi.out,Cob.rd_start bk.out,bj.out⟩
 case round=>
  obtain⟨a,n,ys,la,ah,q,d,b2,rfl,b7,A⟩:=hrel;by_cases bv:n=0
  ·subst bv;go_wp2;go_ret;obtain⟨-,a4,bn⟩:=A.out;rw[show a=l.length by omega] at a4;exact⟨ys,la,ah,bn,.inr ⟨rfl,a4⟩⟩
  ·have ab:a<l.length:=(by omega);obtain⟨b0,cc,rfl,b6,a8⟩:=aP (A.out.1 _ _ _ _ A.out.2.2) (by rw[AL];omega);have ai:=a8 0 (by rw[AL];omega);rw[List.getElem_drop] at ai;simp only[Nat.add_zero] at ai;have be:l[a]≠0:=a3.out _ (Aw ab);have bO:1<=l[a].toNat:=by
    rcases Nat.eq_zero_or_pos l[a].toNat with h | h
    ·exact absurd (UInt8.toNat_inj.1 (by rw[h];rfl)) be
    ·exact h
   have bT:=l[a].toNat_lt;obtain⟨k,aj⟩:∃k,l[a].toNat=k+1:=⟨l[a].toNat-1,by omega⟩;rw[aj] at ai bT;have a2:=gQq aj;have a1:=gQq (A.out.1);clear be bO aj a8;by_cases cb:n<k+1
   ·go_wp2;go_ret;exact⟨ys,la,ah,A.out.2.2,.inl ⟨rfl,Cob.rd_short a3.out A.out.2.1 ab (by have:=a2.out;omega)⟩⟩
   ·have Q:=gQq (Cob.rd_next A.out.2.1 ab k a2.out (by omega));have b5:=Cob.rd_le A.out.2.1;have bb:((l.drop (a+1)).take k).length=k:=(by rw[AM,AL];omega);have b3:k<=254:=by omega
    have a9:∀(M:OA) (S:Nat),(∀ys la ah w',y ys la ah w'->At w' M ((l.drop (a+1)).take k)) ->
      AB N f #[Y M k S,qq (I V),qq (I X),qq (I Z)] wr fun e D=>e=wv (qv #[])∧y (ys++(l.drop (a+1)).take k++if k<254 then [0] else []) k la D:=fun M S bN=>by
     have:=bl.out ys la ah M S ((l.drop (a+1)).take k) wr A.out.2.2 bN (by omega) (by omega) (by omega);rw[bb] at this;exact this
    have a0:=gQq a9;clear a9 bb;by_cases hd:d=1
    ·have bq:k=0:=(by omega);subst bq;go_wp2_with fail;refine(a0.out _ _ (fun _ _ _ _ _=>.inl rfl)).mono ?_;rintro e bX ⟨rfl,J⟩;have L:=gQq J;clear J;go_wp2;go_roundw;case rel=>
      refine⟨a+0+1,n-1,_,0,la,_,_,by omega,rfl,by omega,fun ys la ah w' K=>?_,Q.out,L.out⟩;exact .inl (List.drop_eq_nil_of_le (by omega))
     case measure=>simp[oS];omega
    ·go_wp2_with fail;refine(a0.out _ _ (fun _ _ _ _ K=>?_)).mono ?_
     ·have E:=at_take (gM (a1.out _ _ _ _ K) 1) k;rw[Ax] at E;exact E
     rintro e bX ⟨rfl,J⟩;have L:=gQq J;clear J;by_cases bp:d=k+1
     ·subst bp;go_wp2;go_roundw;case rel=>
       refine⟨a+k+1,0,_,k,la,_,_,by omega,rfl,by omega,fun ys la ah w' K=>?_,Q.out,L.out⟩;exact .inl (List.drop_eq_nil_of_le (by omega))
      case measure=>simp[oS];omega
     ·go_wp2;go_roundw;case rel=>
       refine⟨a+k+1,n-(k+1),_,k,la,_,_,by omega,rfl,by omega,fun ys la ah w' K=>?_,Q.out,L.out⟩;have E:=gM (a1.out _ _ _ _ K) (k+1);rw[Ax] at E;exact E
      case measure=>simp[oS];omega
end
section
open Go.RowKit
structure UnI(w:F)(g:Nat)(ys:L8)(la ah:Nat)(w':F):Prop where
 below:AC w.1.size w w'
 base:w.1.size<=g
 var:∃s cap,Var w' w.1.size g s cap ys
 last:w'.1[g+2]?=I (wx #[O R la] 3 (0,0))
 ahead:w'.1[g+1]?=I (wx #[O R ah] 3 (0,0))
theorem dl{s b:Nat}{o:Obj}(h:W.1[b]?=I o)(A:W.grownBy W' (I s))(D:b≠s):W'.1[b]?=I o :=
 (A.block b (tH h) (fun y=>D (Option.some.inj y))).trans h
theorem oi{s cap:Nat}(hb:AC w.1.size w W)(J:w.1.size<=g)(A:Var W w.1.size g s cap ys)(K:W.1[g+2]?=I (wx #[O R la] 3 (0,0)))(E:W.1[g+1]?=I (wx #[O R ah] 3 (0,0)))(Q:br W' w.1.size s' cap' zs)(y:W.grownBy W' (I s)):
  UnI w g zs la ah (W'.setCell ⟨g,0,U⟩ (Y (I ⟨s',0,U⟩) zs.length cap')):=by
 have M:=dl K y (fun D=>ft A.mine K (by decide) D.symm);have L:=dl E y (fun D=>ft A.mine E (by decide) D.symm);refine⟨(gW hb A.mine.base.1 y).setCell (p:=⟨g,0,U⟩) J _,J,⟨s',cap',fm (A.still y) Q⟩,dl M (bH W' g _) (by omega),dl L (bH W' g _) (by omega)⟩
theorem qa(h:UnI w g ys la ah W)(n:Nat):
  UnI w g ys n la ((W.setCell ⟨g+1,0,U⟩ (O R la)).setCell ⟨g+2,0,U⟩ (O R n)):=by
 obtain⟨hb,L,⟨s,cap,y⟩,M,A⟩:=h;have E:=dK y.mine (bH W (g+1) (O R la)) (ft y.mine A (by decide));have K:=dl y.box (bH W (g+1) (O R la)) (by omega);have D:=dl M (bH W (g+1) (O R la)) (by omega);have J:=one_set A (O R la);refine⟨(hb.setCell (p:=⟨g+1,0,U⟩) (by show w.1.size<=g+1;omega) _).setCell (p:=⟨g+2,0,U⟩) (by show w.1.size<=g+2;omega) _,L,⟨s,cap,?_,?_⟩,one_set D _,dl J (bH _ (g+2) _) (by omega)⟩
 ·exact dl K (bH _ (g+2) _) (by omega)
 ·exact dK E (bH _ (g+2) _) (ft E D (by decide))
theorem vK(w:F)(g:Nat)(ys t:L8)(la ah:Nat)(q:OA)(k:Nat)(w':F)(h:UnI w g ys la ah w')(a3:∀ys la ah S,UnI w g ys la ah S->At S q t)(bT:t.length<=254)(hb:ys.length+t.length+1<=140737488355328):
    AB N 100 #[Y q t.length k,qq (I ⟨g,0,U⟩),qq (I ⟨g+2,0,U⟩),qq (I ⟨g+1,0,U⟩)] w' fun e S=>e=wv (qv #[])∧UnI w g (ys++t++if t.length<254 then [0] else []) t.length la S:=by
  have a4:=gQq h;obtain⟨V,X,⟨s,cap,Z⟩,a1,a0⟩:=h;have bq:=one_cell Z.box;have L:=gQq (a3 _ _ _ _ a4.out);have y:=gQq Z;have ab:=gQq V;have aj:=gQq a1;have ai:=gQq a0;have aw:=V.size;clear Z V a1 a0 a3;by_cases ak:t.length<254
  · have bp:(t.length:Int)<254:=(by omega);rw[AG ak];go_enter func100,ntmps100
    go_wp2_with (first|(at_builtin;refine jg y.out.mine L.out (by omega) aw rfl rfl rfl rfl rfl ?_;intro zs bk a7 a6 M J D;have bc:=bY (y.out.still D);have a8:=one_cell (y.out.still D);have A:=gQq (oi ab.out X y.out aj.out ai.out J D);have E:=gQq (fm (y.out.still D) J);have bs:=one_cell E.out.box;have bO:zs.length<=ys.length+t.length:=(by rw[M.out];simp);clear J D y L)|(at_builtin;refine mq E.out.mine 0 (by omega) A.out.below.size rfl rfl rfl rfl rfl rfl (by simp[World.setCell]) ?_;intro us bX bn bl a5 a2 Q;have bN:=bY (E.out.still Q);have bv:=one_cell (E.out.still Q);have K:=gQq (oi A.out.below X E.out A.out.last A.out.ahead a2 Q);have bb:=one_cell K.out.last;have a9:=one_cell K.out.ahead;have bi:=bY K.out.last;have be:=bY K.out.ahead;clear a2 Q E))
    go_end0;have bj:ys++t++[0]=us:=(by rw[a5.out,M.out]);rw[bj];exact⟨rfl,qa K.out _⟩
  · rw[AF ak,Az];go_enter func100,ntmps100
    go_wp2_with (at_builtin;refine jg y.out.mine L.out (by omega) aw rfl rfl rfl rfl rfl ?_;intro zs bk a7 a6 M J D;have bc:=bY (y.out.still D);have a8:=one_cell (y.out.still D);have A:=gQq (oi ab.out X y.out aj.out ai.out J D);have bb:=one_cell A.out.last;have a9:=one_cell A.out.ahead;have bi:=bY A.out.last;have be:=bY A.out.ahead;clear J D y L)
    go_end0;rw[<-M.out];exact⟨rfl,qa A.out _⟩
theorem jz(w:F)(o:Obj){k:Nat}(h:k<w.1.size):(w.alloc o).1[k]?=w.1[k]?:=by
 show(w.1.push o)[k]?=_;rw[Array.getElem?_push,AF (by omega)]
theorem kQ(h:fD w g o (xs++zs)):fD w g o xs :=
 ⟨h.1,fun j y=>by
  have:=h.2.1 j (by rw[AH];omega)
  rwa [List.getElem_append_left y] at this,fun j y=>h.2.2 j (by rw[AH];omega)⟩
def iv(w:F)(l:L8)(e:Ending)(w':F):Prop :=
 ∃q cap,e=wv (qv #[Y q (Cob.un l).2.length cap,O R ((Cob.un l).1:Nat)])∧At w' q (Cob.un l).2∧(Cob.un l).2.length<=cap∧((Cob.un l).2≠[]->∃g o,q=I ⟨g,o,U⟩∧w.1.size<=g∧fD w' g o (Cob.un l).2)∧AC w.1.size w w'
theorem ej{c:Nat}(h:Cob.un l=(c,[]))(hb:AC w.1.size w w'):iv w l (wv (qv #[Y U 0 0,O R c])) w':=by
 unfold iv;rw[h];exact⟨U,0,rfl,.inl rfl,gQx,fun y=>absurd rfl y,hb⟩
theorem dy{s cap:Nat}(h:Cob.un l=(0,xs))(y:fD w' s 0 xs)(D:w.1.size<=s)(A:xs.length<=cap)(hb:AC w.1.size w w'):iv w l (wv (qv #[Y (I ⟨s,0,U⟩) xs.length cap,O R 0])) w':=by
 unfold iv;rw[h];exact⟨_,cap,rfl,y.at,A,fun _=>⟨s,0,rfl,D,y⟩,hb⟩
theorem m9(h:iA l l.length):Cob.Nz l:=by
 intro c A;obtain⟨j,y,rfl⟩:=List.getElem_of_mem A;exact h.2.1 j y y
theorem sX(p:OA)(c:Nat)(l:L8)(w:F)(bj:l.length<=140737488351232)(b2:l.length<=c)(h:At w p l):
    AB N 72 #[Y p l.length c] w fun e w'=>iv w l e w':=by
  obtain⟨cc,b0,b8,b9,cb⟩:=info_parts iI;have a4:=gQq h;have a5:=gQq (gH p c l bj w h);clear h;go_enter func72,ntmps72;go_wp2_with fail;refine a5.out.mono ?_;rintro e w1 ⟨k,rfl,ak,rfl⟩;have cn:=ak.1;have ai:=gQq ak;clear ak a5;by_cases Q:k<l.length
  · have ck:(k:Int)<(l.length:Int):=(by omega);have a9:Cob.un l=(40,[]):=Cob.un_zero (by rw[<-ai.out.2.2 Q];exact Aw Q);have bq:=gQq a9;clear a9;go_wp2;go_ret2;exact ej bq.out gQz
  · have b1:k=l.length:=(by omega);subst b1;have a8:=gQq (m9 ai.out);clear ai Q
    go_wp2_with (first|(at_make;refine wpList_make_own _ rfl _ _ 40 rfl w1.1.size 5 cc (O .u8 0) 1 underlying40 b0 b8 b9 R R l.length l.length rfl rfl rfl (by rw[cb];omega) (by unfold maxLen;omega) gQx ?_;intro y bl bi;have bv:Hid (br y w1.1.size w1.1.size l.length []):=bl;have a6:=gQq bi;clear bl bi)|fail)
    have a3:w1.1.size<=y.1.size:=a6.out.size;have bc:AC w1.1.size w1 y:=gQz.grown a6.out gQx (fun k Q=>by cases Q)
    have a7:Hid (AB N 99 #[Y p l.length c,.func (.func 100) #[] #[qq (I ⟨y.1.size,0,U⟩),qq (I ⟨y.1.size+2,0,U⟩),qq (I ⟨y.1.size+1,0,U⟩)]]
        (((y.alloc (wx #[Y (I ⟨w1.1.size,0,U⟩) 0 l.length] 40)).alloc (wx #[O R 0] 3)).alloc (wx #[O R 0] 3))
        fun e w'=>∃ys la ah,UnI w1 y.1.size ys la ah w'∧((e=wv (O R 30)∧Cob.un l=(30,[]))∨(e=wv (O R 0)∧l≠[]∧Cob.Rd l l.length ys la ah))):=by
      have bn:UnI w1 y.1.size [] 0 0 (((y.alloc (wx #[Y (I ⟨w1.1.size,0,U⟩) 0 l.length] 40)).alloc (wx #[O R 0] 3)).alloc (wx #[O R 0] 3)):=by
        refine⟨((bc.alloc (by omega) _).alloc (by simp;omega) _).alloc (by simp;omega) _,a3,⟨w1.1.size,l.length,?_,?_⟩,?_,?_⟩
        · rw[jz _ _ (by simp;omega),jz _ _ (by simp)];exact aV y _
        · exact World.ownsRow.alloc (World.ownsRow.alloc (World.ownsRow.alloc bv.out _) _) _
        · have:=aV ((y.alloc (wx #[Y (I ⟨w1.1.size,0,U⟩) 0 l.length] 40)).alloc (wx #[O R 0] 3)) (wx #[O R 0] 3);simpa using this
        · rw[jz _ _ (by simp)];have:=aV (y.alloc (wx #[Y (I ⟨w1.1.size,0,U⟩) 0 l.length] 40)) (wx #[O R 0] 3);simpa using this
      show AB _ _ _ _ _;by_cases L:l=[]
      · subst L;refine(iR p c _ _).mono ?_;rintro e w' ⟨rfl,rfl⟩;exact⟨[],0,0,bn,.inl ⟨rfl,Cob.un_none⟩⟩
      · obtain⟨b,o,rfl,-,-⟩:=aP a4.out (List.length_pos_iff.2 L)
        refine(ke 100 ⟨y.1.size,0,U⟩ ⟨y.1.size+2,0,U⟩ ⟨y.1.size+1,0,U⟩ (UnI w1 y.1.size) b o c l _ bj b2 L a8.out (fun args w=>dn func100 (by kernel_rfl) rfl args w)
          (fun ys la ah w' D=>a4.out.on D.below) bn (fun ys la ah q k t w' D b3 b4 hb _=>vK w1 y.1.size ys t la ah q k w' D b3 b4 hb)).mono ?_
        rintro e w' ⟨ys,la,ah,D,X | X⟩
        · exact⟨ys,la,ah,D,.inl X⟩
        · exact⟨ys,la,ah,D,.inr ⟨X.1,L,X.2⟩⟩
    refine a7.out.mono ?_;rintro e bp ⟨ys,la,ah,D,bX⟩;have M:=gQq D;clear a7 bc;rcases bX with ⟨rfl,bb⟩ | ⟨rfl,L,a2⟩
    · have bs:=gQq bb;clear bb D;go_wp2;go_ret2;exact ej bs.out M.out.below
    · obtain⟨s,cap,ab⟩:=D.var;have A:=gQq ab;have ci:=one_cell ab.box;have cj:=bY ab.box;have Z:=one_cell D.last;have cd:=one_cell D.ahead;obtain⟨xs,E,J⟩:=Cob.rd_end a8.out L a2;have co:=(Cob.rd_le a2).1;clear ab D a2 L;by_cases be:ah=254
      · have bO:((ah:Int)==254)=true:=(by rw[beq_iff_eq];omega);by_cases bk:la=0
        · have bT:((la:Int)==0)=true:=(by rw[beq_iff_eq];omega);rw[AG ⟨be,bk⟩] at J;have K:=gQq J;clear J E;go_wp2;go_ret2;exact ej K.out M.out.below
        · have bT:((la:Int)==0)=false:=(by rw[BQ];omega);rw[AF (fun aw=>bk aw.2)] at J;have K:=gQq J;clear J;by_cases S:la<254
          · have a0:(la:Int)<254:=(by omega);rw[AG S] at E;have V:ys.length=xs.length+1:=(by rw[E];simp);have Z:xs.length<=cap:=(by have:=A.out.mine.base.2.2;omega);have aj:=gQq E;have bN:=gQq V;have b7:1<=ys.length:=(by omega);have b5:xs.length<=140737488351233:=(by omega);have b6:(ys.length:Int)-1=(xs.length:Int):=(by omega);clear E V;go_wp2;go_ret2;refine dy K.out (kQ (zs:=[0]) ?_) A.out.mine.base.1 Z (M.out.below.setCell (p:=⟨y.1.size,0,U⟩) (by show w1.1.size<=y.1.size;exact a3) _);have a1:=dK A.out.mine (bH bp y.1.size (Y (I ⟨s,0,U⟩) xs.length cap)) A.out.ne;rw[<-aj.out];exact a1.free
          · have a0:¬(la:Int)<254:=(by omega);rw[AF S,Az] at E;subst E;go_wp2;go_ret2;exact dy K.out A.out.mine.free A.out.mine.base.1 A.out.mine.base.2.2 M.out.below
      · have bO:((ah:Int)==254)=false:=(by rw[BQ];omega);rw[AF (fun aw=>be aw.1)] at J;have K:=gQq J;clear J;by_cases S:la<254
        · have a0:(la:Int)<254:=(by omega);rw[AG S] at E;have V:ys.length=xs.length+1:=(by rw[E];simp);have Z:xs.length<=cap:=(by have:=A.out.mine.base.2.2;omega);have aj:=gQq E;have bN:=gQq V;have b7:1<=ys.length:=(by omega);have b5:xs.length<=140737488351233:=(by omega);have b6:(ys.length:Int)-1=(xs.length:Int):=(by omega);clear E V;go_wp2;go_ret2;refine dy K.out (kQ (zs:=[0]) ?_) A.out.mine.base.1 Z (M.out.below.setCell (p:=⟨y.1.size,0,U⟩) (by show w1.1.size<=y.1.size;exact a3) _);have a1:=dK A.out.mine (bH bp y.1.size (Y (I ⟨s,0,U⟩) xs.length cap)) A.out.ne;rw[<-aj.out];exact a1.free
        · have a0:¬(la:Int)<254:=(by omega);rw[AF S,Az] at E;subst E;go_wp2;go_ret2;exact dy K.out A.out.mine.free A.out.mine.base.1 A.out.mine.base.2.2 M.out.below
end
section
open Go.RowKit
theorem xm(a b:Nat)(y:a<4294967296)(hb:b<4294967296):bits .xor .u32 (a:Int) (b:Int)=((a ^^^ b:Nat):Int):=u32_xor_nat a b y hb
theorem qo(a:Nat)(y:a<4294967296):bits .xor .u32 IntKind.u32.max (a:Int)=((a ^^^ Crc.full:Nat):Int):=by
 rw[Nat.xor_comm];exact u32_xor_nat 4294967295 a (by omega) y
end
section
open Go.RowKit
def Hv(w:F):Prop:=∀n (_:n<16),w.cell? ⟨2,n,U⟩=I (O .u32 (Crc.steps 4 n:Nat))
theorem zX(r:Nat)(y:r<4294967296):bits .and .u32 (r:Int) 15=((r % 16:Nat):Int):=by
 have:=u32_and_nat r 15 y (by omega);rw[show(15:Nat)=2 ^ 4-1 from rfl,Nat.and_two_pow_sub_one_eq_mod] at this;exact this
theorem fH(r:Nat)(K:r<4294967296)(w:F)(D:Hv w):
  AB N 165 #[O .u32 r] w fun e w'=>e=wv (O .u32 (Crc.steps 4 r:Nat))∧w'=w:=by
 have L:=zX r K;have J:=D (r % 16) (Nat.mod_lt _ (by omega));have M:r % 16<16:=Nat.mod_lt _ (by omega);have A:Crc.steps 4 (r % 16)<4294967296:=Crc.steps_lt 4 (by omega);have E:bits .xor .u32 ((r:Int) / 16) ((Crc.steps 4 (r % 16):Nat):Int)=((r / 16 ^^^ Crc.steps 4 (r % 16):Nat):Int):=xm (r / 16) _ (by omega) A;have y:Hid (r / 16 ^^^ Crc.steps 4 (r % 16)=Crc.steps 4 r):=(Crc.nibble r).symm;generalize Crc.steps 4 (r % 16)=v at J A E y;generalize r / 16 ^^^ v=z at E y;clear D;go_enter func165,ntmps165;go_wp2;go_ret;exact⟨by rw[<-y.out];rfl,rfl⟩
theorem mw(s:Nat)(aw:s<4294967296)(b o c:Nat)(l:L8)(bi:l.length<=140737488351232)(w:F)(a0:Hv w)(ab:cT w b o l):
  AB N 133 #[O .u32 s,Y (I ⟨b,o,U⟩) l.length c] w fun e w'=>e=wv (O .u32 (Crc.update s l:Nat))∧w'=w:=by
 have a4:=qo s aw;have a1:=gQq ab;have Z:=gQq a0;clear ab a0;obtain⟨A,E⟩:∃A,A=s ^^^ Crc.full:=⟨_,rfl⟩;rw[<-E] at a4;have a6:A<4294967296:=by rw[E];exact Nat.xor_lt_two_pow (n:=32) aw (by decide)
 have a2:Hid (Crc.update s l=Crc.take A l ^^^ Crc.full):=by rw[E];exact rfl
 clear E;go_enter func133,ntmps133;go_wp2;go_loop [5,12] (fun a9 Q=>∃(k r:Nat),k<=l.length∧Q=O R k∧a9=O .u32 r∧r<4294967296∧Hid (r=Crc.take A (l.take k))) (fun _ Q=>l.length-(intOf Q).toNat);case atStart=>exact⟨0,A,by omega,rfl,rfl,a6,rfl⟩
 case round=>
  obtain⟨k,r,be,rfl,rfl,M,K⟩:=hrel;by_cases ai:k<l.length
  ·have bc:=a1.out k ai;have bb:l[k].toNat<256:=l[k].toNat_lt;have a7:=xm r l[k].toNat M (by omega);obtain⟨y,D⟩:∃y,y=r ^^^ l[k].toNat:=⟨_,rfl⟩;rw[<-D] at a7;have aj:y<4294967296:=(by rw[D];exact Nat.xor_lt_two_pow (n:=32) M (by omega));have X:Hid (Crc.steps 4 (Crc.steps 4 y)=Crc.take A (l.take (k+1))):=by
    show Crc.steps 4 (Crc.steps 4 y)=_;rw[<-Crc.byte_nibbles,List.take_succ_eq_append_getElem ai,Crc.take_snoc,<-K.out,D];rfl
   have L:Crc.steps 4 y<4294967296:=Crc.steps_lt 4 aj;have ak:Crc.steps 4 (Crc.steps 4 y)<4294967296:=Crc.steps_lt 4 L;have S:=gQq (fH y aj w Z.out);have J:=gQq (fH _ L w Z.out);generalize Crc.steps 4 (Crc.steps 4 y)=a8 at X ak J;generalize Crc.steps 4 y=bj at L S J;clear D K;go_wp2_with fail;refine S.out.mono ?_;rintro e w' ⟨rfl,rfl⟩;go_wp2_with fail;refine J.out.mono ?_;rintro e w' ⟨rfl,rfl⟩;go_wp2;go_round;case rel=>exact⟨k+1,a8,by omega,by go_num,rfl,ak,X⟩
   case measure=>simp[intOf];omega
  ·have a3:k=l.length:=(by omega);subst a3;have a5:=qo r M;have V:Hid ((r ^^^ Crc.full:Nat)=Crc.update s l):=by
    show _=_;rw[a2.out,K.out,List.take_length]
   generalize r ^^^ Crc.full=z at a5 V;go_wp2;go_ret;exact⟨by rw[<-V.out];rfl,rfl⟩
theorem my(s:Nat)(D:s<4294967296)(p:OA)(c:Nat)(w:F):
  AB N 133 #[O .u32 s,Y p 0 c] w fun e w'=>e=wv (O .u32 (s:Nat))∧w'=w:=by
 have E:=qo s D;obtain⟨y,A⟩:∃y,y=s ^^^ Crc.full:=⟨_,rfl⟩;rw[<-A] at E;have K:y<4294967296:=by rw[A];exact Nat.xor_lt_two_pow (n:=32) D (by decide)
 have J:=qo y K;have e:y ^^^ Crc.full=s:=by rw[A];exact Crc.flip_flip s
 rw[e] at J;clear e A;go_enter func133,ntmps133;go_wp2;go_loop [5,12] (fun M L=>L=O R 0∧M=O .u32 y) (fun _ _=>0);case atStart=>exact⟨rfl,rfl⟩
 case round=>
  obtain⟨rfl,rfl⟩:=hrel;go_wp2;go_ret;exact⟨rfl,rfl⟩
theorem oh(s:Nat)(y:s<4294967296)(p:OA)(c:Nat)(l:L8)(D:l.length<=140737488351232)(w:F)(E:Hv w)(h:At w p l):
  AB N 133 #[O .u32 s,Y p l.length c] w fun e w'=>e=wv (O .u32 (Crc.update s l:Nat))∧w'=w:=by
 rcases h with rfl | ⟨b,o,rfl,_,A⟩
 ·rw[Crc.update_nil];exact my s y p c w
 ·exact mw s y b o c l D w E A
theorem vO(p:OA)(c:Nat)(l:L8)(E:l.length<=140737488351232)(w:F)(y:Hv w)(h:At w p l):
  AB N 101 #[Y p l.length c] w fun e w'=>e=wv (O .u32 (Crc.sum l:Nat))∧w'=w:=by
 have D:=gQq (oh 0 (by omega) p c l E w y h);have A:Hid (Crc.update 0 l=Crc.sum l):=rfl;clear h y;go_enter func101,ntmps101;go_wp2_with fail;refine D.out.mono ?_;rintro e w' ⟨rfl,rfl⟩;go_wp2;go_ret;exact⟨by rw[<-A.out];rfl,rfl⟩
end
end Go.Proofs.YtngmnfdaedlodaaGreatDoor
