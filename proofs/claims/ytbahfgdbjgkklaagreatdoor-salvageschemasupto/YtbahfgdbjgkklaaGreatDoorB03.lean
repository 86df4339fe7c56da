import Derived.Test.YtbahfgdbjgkklaaGreatDoorB02
import Derived.Deep.RegionHeld3
set_option maxRecDepth 100000
set_option maxHeartbeats 4000000
namespace Go.Proofs.YtbahfgdbjgkklaaGreatDoor
variable{B ah b cap' g k la o s s':Nat}{W W' w w':World}{l xs ys zs:L8}{v:Value}{T:TypeId}
section
open Go.RowKit
def iM(l:L8)(k:Nat):Prop:=k<=l.length∧(∀j (h:j<l.length),j<k->l[j]≠0)∧∀h:k<l.length,l[k]=0
theorem mD(b o c:Nat)(l:L8)(V:l.length<=140737488351232)(w:World)(I:dQ w b o l):
    Calls Tryz.prog 154 #[.slice (some ⟨b,o,none⟩) l.length c] w fun e w'=>∃k:Nat,e=.returned (.int .i64 k)∧iM l k∧w'=w:=by
  have L:=gQq I;clear I;go_enter Tryz.func154,Tryz.ntmps154;go_wp2;go_loop [3,4,7] (fun _ _ J=>∃i:Nat,i<=l.length∧J=.int .i64 i∧Hid (∀j (h:j<l.length),j<i->l[j]≠0)) (fun _ _ J=>l.length-(intOf J).toNat);case atStart=>exact⟨0,by omega,rfl,fun j _ K=>by omega⟩
  case round=>
    obtain⟨i,U,rfl,y⟩:=hrel;by_cases Q:i<l.length
    · have S:=L.out i Q;have X:(i:Int)<(l.length:Int):=(by omega);by_cases z:l[i]=0
      · have E:Hid (iM l i):=⟨by omega,y.out,fun _=>z⟩;have hb:((l[i].toNat:Int)==0)=true:=(by rw[z];rfl);clear y z;go_wp2;go_ret;exact⟨i,rfl,E.out,rfl⟩
      · have M:Hid (∀j (h:j<l.length),j<i+1->l[j]≠0):=fun j h K=>by
          rcases Nat.lt_succ_iff_lt_or_eq.1 K with D | D
          · exact y.out j h D
          · subst D;exact z
        have hb:((l[i].toNat:Int)==0)=false:=by
          rw[beq_eq_false_iff_ne];intro I
          exact z (UInt8.toNat_inj.1 (by have:l[i].toNat=0:=(by omega);rw[this];rfl))
        clear y z;go_wp2;go_round;case rel=>exact⟨i+1,by omega,by go_num,M⟩
        case measure=>simp[intOf];omega
    · have O:i=l.length:=(by omega);subst O;have E:Hid (iM l l.length):=⟨gQx,y.out,fun h=>by omega⟩;clear y;go_wp2;go_ret;exact⟨_,rfl,E.out,rfl⟩
theorem ko(p:OA)(c:Nat)(w:World):
  Calls Tryz.prog 154 #[.slice p 0 c] w fun e w'=>e=.returned (.int .i64 0)∧w'=w:=by
 go_enter Tryz.func154,Tryz.ntmps154;go_wp2;go_loop [3,4,7] (fun _ _ y=>y=.int .i64 0) (fun _ _ _=>0);case atStart=>exact rfl
 case round=>
  subst hrel;go_wp2;go_ret;exact⟨rfl,rfl⟩
theorem hQ(p:OA)(c:Nat)(l:L8)(z:l.length<=140737488351232)(w:World)(h:At w p l):
  Calls Tryz.prog 154 #[.slice p l.length c] w fun e w'=>∃k:Nat,e=.returned (.int .i64 k)∧iM l k∧w'=w:=by
 rcases h with rfl | ⟨b,o,rfl,_,y⟩
 ·refine(ko p c w).mono ?_;rintro e w' ⟨rfl,rfl⟩;exact⟨0,rfl,⟨gQx,fun j h=>by simp at h,fun h=>by simp at h⟩,rfl⟩
 ·exact mD b o c l z w y
end
section
open Go.RowKit
theorem ii(h:At w (some ⟨b,o,none⟩) l)(k:Nat):At w (some ⟨b,o+k,none⟩) (l.drop k):=by
 rcases h with rfl | ⟨b,o,D,y,z⟩
 ·exact .inl (by simp)
 ·cases D
  exact .inr ⟨_,_,rfl,y,cF z k⟩
theorem mT{p:OA}(h:At w p l)(k:Nat):At w p (l.take k):=by
 rcases h with rfl | ⟨b,o,rfl,y,z⟩
 ·exact .inl (by simp)
 ·exact .inr ⟨b,o,rfl,y,cE z k⟩
section
open Cob
theorem pf{a m:Nat}(h:Writing l a true xs)(ab:m=min (l.length-a) 254)(S:iM ((l.drop a).take m) k):
  (k=l.length-a->stuff l=xs++[UInt8.ofNat (k+1)]++(l.drop a).take k)∧(k<l.length-a->k<254->Writing l (a+k+1) true (xs++[UInt8.ofNat (k+1)]++(l.drop a).take k)) ∧
  (k<l.length-a->¬k<254->Writing l (a+k) true (xs++[UInt8.ofNat (k+1)]++(l.drop a).take k))∧k<=254∧k<=l.length-a∧xs.length+1+k<=l.length+1+l.length / 254:=by
 obtain⟨M,O,Q⟩:=S;have Y:=h.1;have I:((l.drop a).take m).length=m:=by rw[List.length_take,List.length_drop];omega
 rw[I] at M;have J:∀j,j<k->∀h:a+j<l.length,l[a+j]≠0:=fun j V Z=>by
  have:=O j (by rw[I];omega) V;rwa [List.getElem_take,List.getElem_drop] at this
 have E:∀ys:L8,ys=xs++[UInt8.ofNat (k+1)]++(l.drop a).take k->ys.length<=l.length+1+l.length / 254->xs.length+1+k<=l.length+1+l.length / 254:=fun ys e K=>by
  rw[e] at K;simp only[List.length_append,List.length_cons,List.length_nil,List.length_take,List.length_drop] at K;omega
 by_cases D:k<254
 ·by_cases U:a+k=l.length
  ·have y:=writing_end h D U J;exact⟨fun _=>y.2.2 rfl,fun z=>by omega,fun z=>by omega,by omega,by omega,E _ rfl (writing_bound y)⟩
  ·have L:l[a+k]'(by omega)=0:=by
    have:=Q (by rw[I];omega);rwa [List.getElem_take,List.getElem_drop] at this
   have y:=writing_zero h D (by omega) J L;exact⟨fun z=>by omega,fun _ _=>y,fun _ z=>absurd D z,by omega,by omega,E _ rfl (writing_bound y)⟩
 ·have X:k=254:=by omega
  subst X;have y:=writing_full h (by omega) J;refine⟨fun z=>y.2.2 (decide_eq_false (by omega)),fun _ z=>absurd z D,fun z _=>?_,by omega,by omega,E _ rfl (writing_bound y)⟩;rw[decide_eq_true (show a+254<l.length by omega)] at y;exact y
end
theorem fK{P:Program}{f:FuncId}{fn:Func}{c:Code}(z : P.funcs[f]?=some fn)(D : (fn.name== "runtime.NumGoroutine")=false)(hb : fn.body=some c)(args : AV)(w : World):
  (callFunc f args).run P w=.ok (.enter f args) w:=by
 have y : fn.name≠ "runtime.NumGoroutine" := by simpa using D
 simp[callFunc,z,y,hb]
def kT:Value->Nat
 |.slice _ n _=>n
 |_=>0
theorem fD(f:FuncId)(g:Addr)(z:L8->World->Prop)(p:OA)(c:Nat)(l:L8)(w:World)(be:l.length<=1073741824)(a6:l.length<=c)(a8:∀(args:AV) (w:World),(callFunc f args).run Tryz.prog w=.ok (.enter f args) w)(V:∀xs w',z xs w'->At w' p l)(Y:z [] w)(ab:∀xs q k t w',z xs w'->(∀ys E,z ys E->At E q t)->t.length<=254->xs.length+1+t.length<=2147483648->t.length<=k ->
   Calls Tryz.prog f #[.slice q t.length k,.pointer (some g)] w' fun e E=>e=.returned (.tuple #[])∧z (xs++[UInt8.ofNat (t.length+1)]++t) E):
  Calls Tryz.prog 150 #[.slice p l.length c,.func (.func f) #[] #[.pointer (some g)]] w fun e w'=>e=.returned (.tuple #[])∧z (Cob.stuff l) w':=by
 have a1:=gQq V;have a2:=gQq Y;have a4:=gQq ab;clear V Y ab;go_enter Tryz.func150,Tryz.ntmps150;go_wp2;go_loopw [0,4] (fun O _ wr=>∃(a n:Nat) (xs:L8) (q:OA) (d:Nat),a+n=l.length∧O=.slice q n d∧n<=d∧Hid ((∀ys w',z ys w'->At w' q (l.drop a))∧Cob.Writing l a true xs∧z xs wr)) (fun O _ _=>kT O);case atStart=>exact⟨0,l.length,[],p,c,by omega,rfl,a6,a1.out,Cob.writing_start l,a2.out⟩
 case round=>
  obtain⟨a,n,xs,q,d,a9,rfl,bk,y⟩:=hrel;obtain⟨m,ak⟩:∃m,m=min (l.length-a) 254:=⟨_,rfl⟩;have bj:(if (254:Int)<(n:Int) then (254:Int) else (n:Int))=(m:Int):=by split <;> omega
  have bi:m<=d:=by omega
  have a0:((l.drop a).take m).length=m:=by rw[List.length_take,List.length_drop];omega
  have K:=hQ q d ((l.drop a).take m) (by omega) wr (mT (y.out.1 _ _ y.out.2.2) m);rw[a0] at K;have S:=gQq K;have a3:=gQq ak;clear K ak a0;go_wp2_with fail;refine S.out.mono ?_;rintro e w1 ⟨k,rfl,X,rfl⟩;have D:=gQq (pf y.out.2.1 a3.out X);have bc:k<=n:=by have:=D.out.2.2.2.2.1;omega
  have bb:=D.out.2.2.2.1;have bn:=D.out.2.2.2.2.2;have aj:((l.drop a).take k).length=k:=by rw[List.length_take,List.length_drop];omega
  have M:=a4.out xs q d ((l.drop a).take k) w1 y.out.2.2 (fun ys E h=>mT (y.out.1 ys E h) k) (by omega) (by omega) (by omega);rw[aj] at M;have Q:=gQq M;clear X M aj S;go_wp2_with fail;refine Q.out.mono ?_;rintro e bq ⟨rfl,Z⟩;have J:=gQq Z;clear Z Q;by_cases a5:k=n
  ·subst a5;have bp:((k:Int)-(k:Int)==0)=true:=(by simp);go_wp2
   all_goals
    refine bodyPost_ret (results_none rfl _ _ _) rfl ?_;rw[D.out.1 (by omega)];exact⟨rfl,J.out⟩
  ·obtain⟨b,o,rfl,-⟩:=aC (y.out.1 _ _ J.out) (by rw[List.length_drop];omega);by_cases U:k<254
   ·have a7:(k:Int)<254:=(by omega);go_wp2;go_roundw;case rel=>
     refine⟨a+k+1,n-k-1,_,_,_,by omega,rfl,by omega,fun ys w' L=>?_,D.out.2.1 (by omega) U,J.out⟩;have I:=ii (ii (y.out.1 ys w' L) k) 1;rw[List.drop_drop,List.drop_drop] at I;split
     ·exact .inl (List.drop_eq_nil_of_le (by omega))
     ·exact I
    case measure=>simp[kT];omega
   ·go_wp2;go_roundw;case rel=>
     refine⟨a+k,n-k,_,_,_,by omega,rfl,by omega,fun ys w' L=>?_,D.out.2.2.1 (by omega) U,J.out⟩;have I:=ii (y.out.1 ys w' L) k;rw[List.drop_drop] at I;exact I
    case measure=>simp[kT];omega
end
section
open Go.RowKit
theorem one_cell(h:w.1[b]?=some (.cells #[v] T (0,0))):w.cell? ⟨b,0,none⟩=some v:=by
 simp[World.cell?,h]
theorem cm(h:w.1[b]?=some (.cells #[v] T (0,0))):w.frozen? ⟨b,0,none⟩=false:=by
 simp[World.frozen?,h]
theorem one_set(h:w.1[b]?=some (.cells #[v] T (0,0)))(u:Value):(w.setCell ⟨b,0,none⟩ u).1[b]?=some (.cells #[u] T (0,0)):=by
 simp[World.setCell,Array.getElem?_modify,h]
theorem uj{o:Obj}(h:w.1[b]?=some o):b<w.1.size:=(Array.getElem?_eq_some_iff.1 h).1
structure Var(w:World)(B g s cap:Nat)(xs:L8):Prop where
 box:w.1[g]?=some (.cells #[.slice (some ⟨s,0,none⟩) xs.length cap] 22 (0,0))
 mine:bh w B s cap xs
theorem pV{cap:Nat}(h:bh w B s cap xs):∃y,w.1[s]?=some (.cells y 5 (0,0)):=by
 rcases h.2 with ⟨z,_⟩ | ⟨g,c,y,z,_,D,_⟩
 ·cases z
 ·cases z;exact⟨y,D⟩
theorem fT{cap:Nat}{C:AV}(h:bh w B s cap xs)(y:w.1[g]?=some (.cells C T (0,0)))(z:T≠5):s≠g:=by
 rintro rfl;obtain⟨E,D⟩:=pV h;rw[D] at y;injection y with h1;injection h1 with h2 h3;exact z h3.symm
theorem dX{cap:Nat}(h:bh w B s cap xs)(z:w.grownBy W (some b))(D:s≠b):bh W B s cap xs :=
 World.ownsRow.kept h z (.inr (fun y=>D (Option.some.inj y)))
theorem bD(W:World)(b:Nat)(v:Value):W.grownBy (W.setCell ⟨b,0,none⟩ v) (some b) :=
 ⟨rfl,rfl,rfl,by simp[World.setCell],fun i _ z=>Below.heap_setCell _ _ _ _ (fun y=>z (by rw[y]))⟩
theorem om{a b c:World}{row:Option Nat}(h:a.grownBy b row)(k:b.grownBy c row):a.grownBy c row :=
 ⟨k.os.trans h.os,k.tape.trans h.tape,k.output.trans h.output,Nat.le_trans h.size k.size,fun i y z=>(k.block i (Nat.lt_of_lt_of_le y h.size) z).trans (h.block i y z)⟩
theorem qe(w:World)(row:Option Nat):w.grownBy w row:=⟨rfl,rfl,rfl,gQx,fun _ _ _=>rfl⟩
theorem Var.ne{cap:Nat}(h:Var w B g s cap xs):s≠g:=fT h.mine h.box (by decide)
theorem Var.still{cap:Nat}(h:Var w B g s cap xs)(z:w.grownBy W (some s)):W.1[g]?=some (.cells #[.slice (some ⟨s,0,none⟩) xs.length cap] 22 (0,0)) :=
 (z.block g (uj h.box) (fun y=>h.ne (Option.some.inj y).symm)).trans h.box
theorem fQ{cap n:Nat}(hb:W.1[g]?=some (.cells #[.slice (some ⟨s,0,none⟩) n cap] 22 (0,0)))(y:bh W B s' cap' ys):
  Var (W.setCell ⟨g,0,none⟩ (.slice (some ⟨s',0,none⟩) ys.length cap')) B g s' cap' ys :=
 ⟨one_set hb _,dX y (bD W g _) (fT y hb (by decide))⟩
theorem nv(B s cap:Nat)(xs l:L8)(p:OA)(c:Nat)(w:World)(I:bh w B s cap xs)(h:At w p l)(a0:xs.length+l.length<=140737488355328)(S:B<=w.1.size):
  ∃(s' cap':Nat) (W:World),cY Tryz.prog 22 22 22 (.slice (some ⟨s,0,none⟩) xs.length cap) (.slice p l.length c) w (.slice (some ⟨s',0,none⟩) (xs++l).length cap') W∧bh W B s' cap' (xs++l)∧w.grownBy W (some s):=by
 obtain⟨i,M,ak,O,U⟩:=info_parts kh;cases p with
 |none=>
  have Q:l=[]:=by
   rcases h with rfl | ⟨b,o,K,_,_⟩
   ·rfl
   ·cases K
  subst Q;have L:=run_append_room_src (P:=Tryz.prog) w 22 22 22 5 i Tryz.underlying22 M s 0 xs.length cap (.slice none 0 c) 0 [] (by rw[O];exact lm c h) (by have:=I.base.2.2;omega) (fun j y=>by simp at y) (fun j y=>by simp at y);refine⟨s,cap,w,⟨?_⟩,by rw[List.append_nil];exact I,qe _ _⟩;rw[List.append_nil];exact L
 |some a=>
  have X:∀j u,(cellsOf l)[j]?=some u->w.cell? (a.add j)=some u:=fun j u y=>by
   have E:j<l.length:=by
    have:=(List.getElem?_eq_some_iff.1 y).1;simpa[cellsOf] using this
   rcases h with rfl | ⟨b,o,K,_,V⟩
   ·simp at E
   ·cases K
    rw[bH l j E] at y;cases y
    rw[Lib.add_plain];exact V j E
  obtain⟨v',W,L,J,Z,ab⟩:=run_append_own (P:=Tryz.prog) w B 22 22 5 i (.int .u8 0) 1 1 Tryz.underlying22 M ak O U rfl (by decide) _ xs.length (cellsOf xs) I a l.length c (cellsOf l) (by rw[bE,Nat.mul_one]) X
   (fun u aj=>by obtain⟨_,_,rfl⟩:=List.mem_map.1 aj;rfl) (by unfold maxLen;omega) (by omega) S
  rw[<-cV,<-List.length_append] at J;have Y:∃z cap',v'=.slice (some ⟨z,0,none⟩) (xs++l).length cap':=by
   rcases J.2 with ⟨D,_⟩ | ⟨z,cap',_,D,_⟩
   ·have:=(ab.1 D).1;cases this
   ·exact⟨z,cap',D⟩
  obtain⟨z,cap',rfl⟩:=Y;exact⟨z,cap',W,⟨L⟩,J,Z⟩
theorem m9{cap:Nat}(Z:bh w B s cap xs)(c:UInt8)(V:xs.length+1<=140737488355328)(J:B<=w.1.size){y:Int}{E:Array Oper}{rest:List Oper}{o:Oper}{a:Act}{z:Exit->Act->World->Prop}{I x:Operand}(a2:y=(c.toNat:Int))(a0:o.type=22)(O:o.guard=none)(Y:o.op=Op.call { callee:=Callee.builtin Builtin.append,args:=#[I,x],argTypes:=#[22,22] })(ak:a.eval I=.slice (some ⟨s,0,none⟩) xs.length cap){ad:Nat}(a1:a.eval x=.slice (some ⟨ad,0,none⟩) 1 1)(L:ad=w.1.size)(K:∀ys s' cap' W,Hid (ys=xs++[c])->bh W B s' cap' ys->w.grownBy W (some s)->wpList Tryz.prog E z rest (a.put o.dst (.slice (some ⟨s',0,none⟩) ys.length cap')) W):
  wpList Tryz.prog E z (o::rest) a (w.alloc (.cells #[.int .u8 y] 5)):=by
 subst L;have M:At (w.alloc (.cells #[.int .u8 y] 5)) (some ⟨w.1.size,0,none⟩) [c]:=by
  refine .inr ⟨_,_,rfl,by simp,fun j S=>?_⟩;have U:j=0:=by simp at S;omega
  subst U;rw[World.cell?_alloc_new,a2];rfl
 have D:=World.grownBy_alloc w (.cells #[.int .u8 y] 5) (some s);obtain⟨s',cap',W,ab,X,Q⟩:=nv B s cap xs [c] (some ⟨w.1.size,0,none⟩) 1 _ (World.ownsRow.alloc Z _) M (by simpa using V) (Nat.le_trans J D.size);have aj:cY Tryz.prog 22 22 o.type (.slice (some ⟨s,0,none⟩) xs.length cap) (.slice (some ⟨w.1.size,0,none⟩) 1 1) (w.alloc (.cells #[.int .u8 y] 5)) (.slice (some ⟨s',0,none⟩) (xs++[c]).length cap') W:=by rw[a0];exact ab
 exact bv aj O Y ak a1 (K _ s' cap' W (gQq rfl) X (om D Q))
theorem jC{cap:Nat}{p:OA}(Q:bh w B s cap xs)(h:At w p l)(L:xs.length+l.length<=140737488355328)(E:B<=w.1.size){z:Array Oper}{rest:List Oper}{o:Oper}{a:Act}{y:Exit->Act->World->Prop}{D x:Operand}(X:o.type=22)(J:o.guard=none)(O:o.op=Op.call { callee:=Callee.builtin Builtin.append,args:=#[D,x],argTypes:=#[22,22] })(V:a.eval D=.slice (some ⟨s,0,none⟩) xs.length cap)(Y:a.eval x=.slice p l.length k)(I:∀ys s' cap' W,Hid (ys=xs++l)->bh W B s' cap' ys->w.grownBy W (some s)->wpList Tryz.prog z y rest (a.put o.dst (.slice (some ⟨s',0,none⟩) ys.length cap')) W):
  wpList Tryz.prog z y (o::rest) a w:=by
 obtain⟨s',cap',W,S,M,K⟩:=nv B s cap xs l p k w Q h L E;have U:cY Tryz.prog 22 22 o.type (.slice (some ⟨s,0,none⟩) xs.length cap) (.slice p l.length k) w (.slice (some ⟨s',0,none⟩) (xs++l).length cap') W:=by rw[X];exact S
 exact bv U J O V Y (I _ s' cap' W (gQq rfl) M K)
end
section
open Go.RowKit
def yT(w:World)(xs:L8)(w':World):Prop:=Below w.1.size w w'∧w'.1[w.1.size]?=some (.cells #[.int .i64 xs.length] 3 (0,0))
theorem uL(w:World)(xs t:L8)(q:OA)(k:Nat)(w':World)(h:yT w xs w')(hb:xs.length+1+t.length<=2147483648):
  Calls Tryz.prog 201 #[.slice q t.length k,.pointer (some ⟨w.1.size,0,none⟩)] w' fun e y=>e=.returned (.tuple #[])∧yT w (xs++[UInt8.ofNat (t.length+1)]++t) y:=by
 have z:=one_cell h.2;have D:=cm h.2;have H:=gQq h;clear h;go_enter Tryz.func201,Tryz.ntmps201;go_wp2;go_end0;refine⟨rfl,H.out.1.setCell gQx _,?_⟩;rw[one_set H.out.2];simp;omega
theorem zZ(p:OA)(c:Nat)(l:L8)(w:World)(E:l.length<=1073741824)(I:l.length<=c)(h:At w p l):
  Calls Tryz.prog 149 #[.slice p l.length c] w fun e w'=>e=.returned (.int .i64 ((Cob.stuff l).length:Nat))∧Below w.1.size w w':=by
 have z:=gQq h;clear h;go_enter Tryz.func149,Tryz.ntmps149;go_wp2_with fail;refine(fD 201 ⟨w.1.size,0,none⟩ (yT w) p c l _ E I (fun args w=>fK Tryz.func201 (by kernel_rfl) rfl args w) (fun xs w' y=>z.out.on y.1) ?_ (fun xs q k t w' y _ _ hb _=>uL w xs t q k w' y hb)).mono ?_
 ·exact⟨gQy,bC w _⟩
 ·rintro e w1 ⟨rfl,y⟩;have J:=one_cell y.2;have D:=gQq y.1;clear y;go_wp2;go_ret;exact⟨rfl,D.out⟩
end
section
open Go.RowKit
def xy(w:World)(g:Nat)(xs:L8)(w':World):Prop:=Below w.1.size w w'∧w.1.size<=g∧∃s cap,Var w' w.1.size g s cap xs
theorem iA(h:Below w.1.size w W)(D:w.1.size<=s)(y:W.grownBy W' (some s)):Below w.1.size w W' :=
 h.grown y h.size (fun k z=>by cases z;exact D)
theorem tJ(w:World)(g:Nat)(xs t:L8)(q:OA)(k:Nat)(w':World)(h:xy w g xs w')(Y:∀ys J,xy w g ys J->At J q t)(a6:t.length<=254)(hb:xs.length+1+t.length<=2147483648):
    Calls Tryz.prog 151 #[.slice q t.length k,.pointer (some ⟨g,0,none⟩)] w' fun e J=>e=.returned (.tuple #[])∧xy w g (xs++[UInt8.ofNat (t.length+1)]++t) J:=by
  obtain⟨L,I,s,cap,M⟩:=h;have bb:=one_cell M.box;have a5:(UInt8.ofNat (t.length+1)).toNat=t.length+1:=Cob.len_byte _ a6;have a1:=gQq Y;have z:=gQq M;have ak:=gQq L;have a4:=L.size;clear M L Y;generalize UInt8.ofNat (t.length+1)=U at a5;go_enter Tryz.func151,Tryz.ntmps151
  go_wp2_with (first|(at_builtin;refine m9 z.out.mine U (by omega) a4 (by omega) rfl rfl rfl rfl rfl rfl ?_;intro ys Z Q a8 O V D;have bj:=cm (z.out.still D);have bc:=one_cell (z.out.still D);have y:=gQq (fQ (z.out.still D) V);have K:=gQq ((iA ak.out z.out.mine.base.1 D).setCell (p:=⟨g,0,none⟩) I (.slice (some ⟨Z,0,none⟩) ys.length Q));have be:=one_cell y.out.box;have aj:=gQq (a1.out _ _ ⟨K.out,I,Z,Q,y.out⟩);have bn:ys.length<=xs.length+1:=(by rw[O.out];simp);clear V D)|(at_builtin;refine jC y.out.mine aj.out (by omega) K.out.size rfl rfl rfl rfl rfl ?_;intro zs ab S a9 a3 X E;have bk:=cm (y.out.still E);have bi:=one_cell (y.out.still E);have a2:=gQq (fQ (y.out.still E) X);have a0:=gQq ((iA K.out y.out.mine.base.1 E).setCell (p:=⟨g,0,none⟩) I (.slice (some ⟨ab,0,none⟩) zs.length S));clear X E))
  go_end0;have a7:zs=xs++[U]++t:=by rw[a3.out,O.out]
  rw[<-a7];exact⟨rfl,a0.out,I,ab,S,a2.out⟩
theorem l7(p:OA)(c:Nat)(l:L8)(w:World)(U:l.length<=1073741824)(V:l.length<=c)(h:At w p l):
    Calls Tryz.prog 92 #[.slice p l.length c] w fun e w'=>∃g o cap,e=.returned (.slice (some ⟨g,o,none⟩) (Cob.stuff l).length cap)∧fZ w' g o (Cob.stuff l)∧w.1.size<=g∧(Cob.stuff l).length<=cap∧Below w.1.size w w':=by
  obtain⟨a6,z,a3,a4,a5⟩:=info_parts kh;have Y:=gQq h;have ak:=(Cob.stuff_length l).2;obtain⟨n,I⟩:∃n,n=(Cob.stuff l).length:=⟨_,rfl⟩;have L:=gQq (zZ p c l w U V h);rw[<-I] at L ak;clear h;have a7:=gQq I;clear I;go_enter Tryz.func92,Tryz.ntmps92;go_wp2_with fail;refine L.out.mono ?_;rintro e w1 ⟨rfl,E⟩;have Z:=gQq E;have M:=E.size;clear E
  go_wp2_with (first|(at_make;refine wpList_make_own _ rfl _ _ 22 rfl w.1.size 5 a6 (.int .u8 0) 1 Tryz.underlying22 z a3 a4 .i64 .i64 n n rfl rfl rfl (by rw[a5];omega) (by unfold maxLen;omega) M ?_;intro y X S;have aj:Hid (bh y w.1.size w1.1.size n []):=X;have K:=gQq S;clear X S)|fail)
  have bb:w1.1.size<=y.1.size:=K.out.size;have O:Below w.1.size w y:=Z.out.grown K.out M (fun k a0=>by cases a0);refine(fD 151 ⟨y.1.size,0,none⟩ (xy w y.1.size) p c l _ U V (fun args w=>fK Tryz.func151 (by kernel_rfl) rfl args w) (fun xs w' z=>Y.out.on z.1) ?_ (fun xs q k t w' z a1 a2 hb _=>tJ w y.1.size xs t q k w' z a1 a2 hb)).mono ?_
  · exact⟨O.alloc (by omega) _,by omega,w1.1.size,n,⟨bC y _,World.ownsRow.alloc aj.out _⟩⟩
  · rintro e bc ⟨rfl,Q,a9,s,cap,J⟩;have a8:=one_cell J.box;have ab:=gQq Q;have D:=gQq J;clear Q J O;go_wp2;go_ret;exact⟨s,0,cap,rfl,D.out.mine.free,D.out.mine.base.1,D.out.mine.base.2.2,ab.out⟩
end
section
open Go.RowKit
theorem jj(p:OA)(c:Nat)(v:Value)(w:World):Calls Tryz.prog 155 #[.slice p 0 c,v] w fun e w'=>e=.returned (.int .i64 30)∧w'=w:=by
 go_enter Tryz.func155,Tryz.ntmps155;go_wp2;go_ret;exact⟨rfl,rfl⟩
theorem kR(f:FuncId)(Q S U:Addr)(y:L8->Nat->Nat->World->Prop)(b o c:Nat)(l:L8)(w:World)(b3:l.length<=140737488351232)(bq:l.length<=c)(Z:l≠[])(a9:Cob.Nz l)(b0:∀(args:AV) (w:World),(callFunc f args).run Tryz.prog w=.ok (.enter f args) w)(a3:∀ys la ah w',y ys la ah w'->At w' (some ⟨b,o,none⟩) l)(a4:y [] 0 0 w)(a5:∀ys la ah q k t w',y ys la ah w'->(∀ys la ah D,y ys la ah D->At D q t)->t.length<=254->ys.length+t.length+1<=140737488355328->la<=254 ->
   Calls Tryz.prog f #[.slice q t.length k,.pointer (some Q),.pointer (some S),.pointer (some U)] w' fun e D=>e=.returned (.tuple #[])∧y (ys++t++if t.length<254 then [0] else []) t.length la D):
  Calls Tryz.prog 155 #[.slice (some ⟨b,o,none⟩) l.length c,.func (.func f) #[] #[.pointer (some Q),.pointer (some S),.pointer (some U)]] w fun e w'=>
   ∃ys la ah,y ys la ah w'∧((e=.returned (.int .i64 30)∧Cob.un l=(30,[]))∨(e=.returned (.int .i64 0)∧Cob.Rd l l.length ys la ah)):=by
 have bc:=gQq a3;have be:=gQq a4;have bj:=gQq a5;have a1:=gQq a9;have b8:0<l.length:=List.length_pos_iff.2 Z;have bi:=gQq Z;have b7:((l.length:Int)==0)=false:=by rw[beq_eq_false_iff_ne];omega
 clear a3 a4 a5 a9 Z;go_enter Tryz.func155,Tryz.ntmps155;go_wp2;go_loopw [0,5] (fun ab _ wr=>∃(a n:Nat) (ys:L8) (la ah:Nat) (q:OA) (d:Nat),a+n=l.length∧ab=.slice q n d∧n<=d∧Hid ((∀ys la ah w',y ys la ah w'->At w' q (l.drop a))∧Cob.Rd l a ys la ah∧y ys la ah wr)) (fun ab _ _=>kT ab);case atStart=>exact⟨0,l.length,[],0,0,_,c,by omega,rfl,bq,bc.out,Cob.rd_start bi.out,be.out⟩
 case round=>
  obtain⟨a,n,ys,la,ah,q,d,b1,rfl,b6,z⟩:=hrel;by_cases br:n=0
  ·subst br;go_wp2;go_ret;obtain⟨-,a2,bk⟩:=z.out;rw[show a=l.length by omega] at a2;exact⟨ys,la,ah,bk,.inr ⟨rfl,a2⟩⟩
  ·have V:a<l.length:=(by omega);obtain⟨bX,ca,rfl,b5,a6⟩:=aC (z.out.1 _ _ _ _ z.out.2.2) (by rw[List.length_drop];omega);have X:=a6 0 (by rw[List.length_drop];omega);rw[List.getElem_drop] at X;simp only[Nat.add_zero] at X;have bb:l[a]≠0:=a1.out _ (List.getElem_mem V);have bN:1<=l[a].toNat:=by
    rcases Nat.eq_zero_or_pos l[a].toNat with h | h
    ·exact absurd (UInt8.toNat_inj.1 (by rw[h];rfl)) bb
    ·exact h
   have bO:=l[a].toNat_lt;obtain⟨k,Y⟩:∃k,l[a].toNat=k+1:=⟨l[a].toNat-1,by omega⟩;rw[Y] at X bO;have a0:=gQq Y;have ak:=gQq (z.out.1);clear bb bN Y a6;by_cases b9:n<k+1
   ·go_wp2;go_ret;exact⟨ys,la,ah,z.out.2.2,.inl ⟨rfl,Cob.rd_short a1.out z.out.2.1 V (by have:=a0.out;omega)⟩⟩
   ·have M:=gQq (Cob.rd_next z.out.2.1 V k a0.out (by omega));have b4:=Cob.rd_le z.out.2.1;have a8:((l.drop (a+1)).take k).length=k:=(by rw[List.length_take,List.length_drop];omega);have b2:k<=254:=by omega
    have a7:∀(L:OA) (O:Nat),(∀ys la ah w',y ys la ah w'->At w' L ((l.drop (a+1)).take k)) ->
      Calls Tryz.prog f #[.slice L k O,.pointer (some Q),.pointer (some S),.pointer (some U)] wr fun e D=>e=.returned (.tuple #[])∧y (ys++(l.drop (a+1)).take k++if k<254 then [0] else []) k la D:=fun L O bs=>by
     have:=bj.out ys la ah L O ((l.drop (a+1)).take k) wr z.out.2.2 bs (by omega) (by omega) (by omega);rw[a8] at this;exact this
    have aj:=gQq a7;clear a7 a8;by_cases hd:d=1
    ·have bp:k=0:=(by omega);subst bp;go_wp2_with fail;refine(aj.out _ _ (fun _ _ _ _ _=>.inl rfl)).mono ?_;rintro e bT ⟨rfl,I⟩;have K:=gQq I;clear I;go_wp2;go_roundw;case rel=>
      refine⟨a+0+1,n-1,_,0,la,_,_,by omega,rfl,by omega,fun ys la ah w' J=>?_,M.out,K.out⟩;exact .inl (List.drop_eq_nil_of_le (by omega))
     case measure=>simp[kT];omega
    ·go_wp2_with fail;refine(aj.out _ _ (fun _ _ _ _ J=>?_)).mono ?_
     ·have E:=mT (ii (ak.out _ _ _ _ J) 1) k;rw[List.drop_drop] at E;exact E
     rintro e bT ⟨rfl,I⟩;have K:=gQq I;clear I;by_cases bn:d=k+1
     ·subst bn;go_wp2;go_roundw;case rel=>
       refine⟨a+k+1,0,_,k,la,_,_,by omega,rfl,by omega,fun ys la ah w' J=>?_,M.out,K.out⟩;exact .inl (List.drop_eq_nil_of_le (by omega))
      case measure=>simp[kT];omega
     ·go_wp2;go_roundw;case rel=>
       refine⟨a+k+1,n-(k+1),_,k,la,_,_,by omega,rfl,by omega,fun ys la ah w' J=>?_,M.out,K.out⟩;have E:=ii (ak.out _ _ _ _ J) (k+1);rw[List.drop_drop] at E;exact E
      case measure=>simp[kT];omega
end
section
open Go.RowKit
structure UnI(w:World)(g:Nat)(ys:L8)(la ah:Nat)(w':World):Prop where
 below:Below w.1.size w w'
 base:w.1.size<=g
 var:∃s cap,Var w' w.1.size g s cap ys
 last:w'.1[g+2]?=some (.cells #[.int .i64 la] 3 (0,0))
 ahead:w'.1[g+1]?=some (.cells #[.int .i64 ah] 3 (0,0))
theorem dJ{o:Obj}(h:W.1[b]?=some o)(z:W.grownBy W' (some s))(D:b≠s):W'.1[b]?=some o :=
 (z.block b (uj h) (fun y=>D (Option.some.inj y))).trans h
theorem pd{cap:Nat}(hb:Below w.1.size w W)(I:w.1.size<=g)(z:Var W w.1.size g s cap ys)(J:W.1[g+2]?=some (.cells #[.int .i64 la] 3 (0,0)))(E:W.1[g+1]?=some (.cells #[.int .i64 ah] 3 (0,0)))(M:bh W' w.1.size s' cap' zs)(y:W.grownBy W' (some s)):
  UnI w g zs la ah (W'.setCell ⟨g,0,none⟩ (.slice (some ⟨s',0,none⟩) zs.length cap')):=by
 have L:=dJ J y (fun D=>fT z.mine J (by decide) D.symm);have K:=dJ E y (fun D=>fT z.mine E (by decide) D.symm);refine⟨(iA hb z.mine.base.1 y).setCell (p:=⟨g,0,none⟩) I _,I,⟨s',cap',fQ (z.still y) M⟩,dJ L (bD W' g _) (by omega),dJ K (bD W' g _) (by omega)⟩
theorem qH(h:UnI w g ys la ah W)(n:Nat):
  UnI w g ys n la ((W.setCell ⟨g+1,0,none⟩ (.int .i64 la)).setCell ⟨g+2,0,none⟩ (.int .i64 n)):=by
 obtain⟨hb,K,⟨s,cap,y⟩,L,z⟩:=h;have E:=dX y.mine (bD W (g+1) (.int .i64 la)) (fT y.mine z (by decide));have J:=dJ y.box (bD W (g+1) (.int .i64 la)) (by omega);have D:=dJ L (bD W (g+1) (.int .i64 la)) (by omega);have I:=one_set z (.int .i64 la);refine⟨(hb.setCell (p:=⟨g+1,0,none⟩) (by show w.1.size<=g+1;omega) _).setCell (p:=⟨g+2,0,none⟩) (by show w.1.size<=g+2;omega) _,K,⟨s,cap,?_,?_⟩,one_set D _,dJ I (bD _ (g+2) _) (by omega)⟩
 ·exact dJ J (bD _ (g+2) _) (by omega)
 ·exact dX E (bD _ (g+2) _) (fT E D (by decide))
theorem wB(w:World)(g:Nat)(ys t:L8)(la ah:Nat)(q:OA)(k:Nat)(w':World)(h:UnI w g ys la ah w')(a1:∀ys la ah O,UnI w g ys la ah O->At O q t)(bO:t.length<=254)(hb:ys.length+t.length+1<=140737488355328):
    Calls Tryz.prog 156 #[.slice q t.length k,.pointer (some ⟨g,0,none⟩),.pointer (some ⟨g+2,0,none⟩),.pointer (some ⟨g+1,0,none⟩)] w' fun e O=>e=.returned (.tuple #[])∧UnI w g (ys++t++if t.length<254 then [0] else []) t.length la O:=by
  have a2:=gQq h;obtain⟨Q,S,⟨s,cap,U⟩,ak,aj⟩:=h;have bp:=one_cell U.box;have K:=gQq (a1 _ _ _ _ a2.out);have y:=gQq U;have V:=gQq Q;have Y:=gQq ak;have X:=gQq aj;have ab:=Q.size;clear U Q ak aj a1;by_cases Z:t.length<254
  · have bn:(t.length:Int)<254:=(by omega);rw[if_pos Z];go_enter Tryz.func156,Tryz.ntmps156
    go_wp2_with (first|(at_builtin;refine jC y.out.mine K.out (by omega) ab rfl rfl rfl rfl rfl ?_;intro zs bi a5 a4 L I D;have a9:=cm (y.out.still D);have a6:=one_cell (y.out.still D);have z:=gQq (pd V.out S y.out Y.out X.out I D);have E:=gQq (fQ (y.out.still D) I);have bq:=one_cell E.out.box;have bN:zs.length<=ys.length+t.length:=(by rw[L.out];simp);clear I D y K)|(at_builtin;refine m9 E.out.mine 0 (by omega) z.out.below.size rfl rfl rfl rfl rfl rfl (by simp[World.setCell]) ?_;intro us bT bk bj a3 a0 M;have bs:=cm (E.out.still M);have br:=one_cell (E.out.still M);have J:=gQq (pd z.out.below S E.out z.out.last z.out.ahead a0 M);have a8:=one_cell J.out.last;have a7:=one_cell J.out.ahead;have bc:=cm J.out.last;have bb:=cm J.out.ahead;clear a0 M E))
    go_end0;have be:ys++t++[0]=us:=(by rw[a3.out,L.out]);rw[be];exact⟨rfl,qH J.out _⟩
  · rw[if_neg Z,List.append_nil];go_enter Tryz.func156,Tryz.ntmps156
    go_wp2_with (at_builtin;refine jC y.out.mine K.out (by omega) ab rfl rfl rfl rfl rfl ?_;intro zs bi a5 a4 L I D;have a9:=cm (y.out.still D);have a6:=one_cell (y.out.still D);have z:=gQq (pd V.out S y.out Y.out X.out I D);have a8:=one_cell z.out.last;have a7:=one_cell z.out.ahead;have bc:=cm z.out.last;have bb:=cm z.out.ahead;clear I D y K)
    go_end0;rw[<-L.out];exact⟨rfl,qH z.out _⟩
theorem ki(w:World)(o:Obj){k:Nat}(h:k<w.1.size):(w.alloc o).1[k]?=w.1[k]?:=by
 show(w.1.push o)[k]?=_;rw[Array.getElem?_push,if_neg (by omega)]
theorem lM(h:fZ w g o (xs++zs)):fZ w g o xs :=
 ⟨h.1,fun j y=>by
  have:=h.2.1 j (by rw[List.length_append];omega)
  rwa [List.getElem_append_left y] at this,fun j y=>h.2.2 j (by rw[List.length_append];omega)⟩
def iK(w:World)(l:L8)(e:Ending)(w':World):Prop :=
 ∃q cap,e=.returned (.tuple #[.slice q (Cob.un l).2.length cap,.int .i64 ((Cob.un l).1:Nat)])∧At w' q (Cob.un l).2∧(Cob.un l).2.length<=cap∧((Cob.un l).2≠[]->∃g o,q=some ⟨g,o,none⟩∧w.1.size<=g∧fZ w' g o (Cob.un l).2)∧Below w.1.size w w'
theorem eZ{c:Nat}(h:Cob.un l=(c,[]))(hb:Below w.1.size w w'):iK w l (.returned (.tuple #[.slice none 0 0,.int .i64 c])) w':=by
 unfold iK;rw[h];exact⟨none,0,rfl,.inl rfl,gQx,fun y=>absurd rfl y,hb⟩
theorem dR{cap:Nat}(h:Cob.un l=(0,xs))(y:fZ w' s 0 xs)(D:w.1.size<=s)(z:xs.length<=cap)(hb:Below w.1.size w w'):iK w l (.returned (.tuple #[.slice (some ⟨s,0,none⟩) xs.length cap,.int .i64 0])) w':=by
 unfold iK;rw[h];exact⟨_,cap,rfl,y.at,z,fun _=>⟨s,0,rfl,D,y⟩,hb⟩
theorem nX(h:iM l l.length):Cob.Nz l:=by
 intro c z;obtain⟨j,y,rfl⟩:=List.getElem_of_mem z;exact h.2.1 j y y
theorem tA(p:OA)(c:Nat)(l:L8)(w:World)(be:l.length<=140737488351232)(b1:l.length<=c)(h:At w p l):
    Calls Tryz.prog 95 #[.slice p l.length c] w fun e w'=>iK w l e w':=by
  obtain⟨ca,bX,b7,b8,b9⟩:=info_parts kh;have a2:=gQq h;have a3:=gQq (hQ p c l be w h);clear h;go_enter Tryz.func95,Tryz.ntmps95;go_wp2_with fail;refine a3.out.mono ?_;rintro e w1 ⟨k,rfl,Z,rfl⟩;have cf:=Z.1;have X:=gQq Z;clear Z a3;by_cases M:k<l.length
  · have ce:(k:Int)<(l.length:Int):=(by omega);have a7:Cob.un l=(40,[]):=Cob.un_zero (by rw[<-X.out.2.2 M];exact List.getElem_mem M);have bp:=gQq a7;clear a7;go_wp2;go_ret2;exact eZ bp.out gQz
  · have b0:k=l.length:=(by omega);subst b0;have a6:=gQq (nX X.out);clear X M
    go_wp2_with (first|(at_make;refine wpList_make_own _ rfl _ _ 22 rfl w1.1.size 5 ca (.int .u8 0) 1 Tryz.underlying22 bX b7 b8 .i64 .i64 l.length l.length rfl rfl rfl (by rw[b9];omega) (by unfold maxLen;omega) gQx ?_;intro y bj bc;have br:Hid (bh y w1.1.size w1.1.size l.length []):=bj;have a4:=gQq bc;clear bj bc)|fail)
    have a1:w1.1.size<=y.1.size:=a4.out.size;have a9:Below w1.1.size w1 y:=gQz.grown a4.out gQx (fun k M=>by cases M)
    have a5:Hid (Calls Tryz.prog 155 #[.slice p l.length c,.func (.func 156) #[] #[.pointer (some ⟨y.1.size,0,none⟩),.pointer (some ⟨y.1.size+2,0,none⟩),.pointer (some ⟨y.1.size+1,0,none⟩)]]
        (((y.alloc (.cells #[.slice (some ⟨w1.1.size,0,none⟩) 0 l.length] 22)).alloc (.cells #[.int .i64 0] 3)).alloc (.cells #[.int .i64 0] 3))
        fun e w'=>∃ys la ah,UnI w1 y.1.size ys la ah w'∧((e=.returned (.int .i64 30)∧Cob.un l=(30,[]))∨(e=.returned (.int .i64 0)∧l≠[]∧Cob.Rd l l.length ys la ah))):=by
      have bk:UnI w1 y.1.size [] 0 0 (((y.alloc (.cells #[.slice (some ⟨w1.1.size,0,none⟩) 0 l.length] 22)).alloc (.cells #[.int .i64 0] 3)).alloc (.cells #[.int .i64 0] 3)):=by
        refine⟨((a9.alloc (by omega) _).alloc (by simp;omega) _).alloc (by simp;omega) _,a1,⟨w1.1.size,l.length,?_,?_⟩,?_,?_⟩
        · rw[ki _ _ (by simp;omega),ki _ _ (by simp)];exact bC y _
        · exact World.ownsRow.alloc (World.ownsRow.alloc (World.ownsRow.alloc br.out _) _) _
        · have:=bC ((y.alloc (.cells #[.slice (some ⟨w1.1.size,0,none⟩) 0 l.length] 22)).alloc (.cells #[.int .i64 0] 3)) (.cells #[.int .i64 0] 3);simpa using this
        · rw[ki _ _ (by simp)];have:=bC (y.alloc (.cells #[.slice (some ⟨w1.1.size,0,none⟩) 0 l.length] 22)) (.cells #[.int .i64 0] 3);simpa using this
      show Calls _ _ _ _ _;by_cases K:l=[]
      · subst K;refine(jj p c _ _).mono ?_;rintro e w' ⟨rfl,rfl⟩;exact⟨[],0,0,bk,.inl ⟨rfl,Cob.un_none⟩⟩
      · obtain⟨b,o,rfl,-,-⟩:=aC a2.out (List.length_pos_iff.2 K)
        refine(kR 156 ⟨y.1.size,0,none⟩ ⟨y.1.size+2,0,none⟩ ⟨y.1.size+1,0,none⟩ (UnI w1 y.1.size) b o c l _ be b1 K a6.out (fun args w=>fK Tryz.func156 (by kernel_rfl) rfl args w)
          (fun ys la ah w' D=>a2.out.on D.below) bk (fun ys la ah q k t w' D b2 b3 hb _=>wB w1 y.1.size ys t la ah q k w' D b2 b3 hb)).mono ?_
        rintro e w' ⟨ys,la,ah,D,S | S⟩
        · exact⟨ys,la,ah,D,.inl S⟩
        · exact⟨ys,la,ah,D,.inr ⟨S.1,K,S.2⟩⟩
    refine a5.out.mono ?_;rintro e bn ⟨ys,la,ah,D,bT⟩;have L:=gQq D;clear a5 a9;rcases bT with ⟨rfl,a8⟩ | ⟨rfl,K,a0⟩
    · have bq:=gQq a8;clear a8 D;go_wp2;go_ret2;exact eZ bq.out L.out.below
    · obtain⟨s,cap,V⟩:=D.var;have z:=gQq V;have cc:=one_cell V.box;have cd:=cm V.box;have U:=one_cell D.last;have cb:=one_cell D.ahead;obtain⟨xs,E,I⟩:=Cob.rd_end a6.out K a0;have cg:=(Cob.rd_le a0).1;clear V D a0 K;by_cases bb:ah=254
      · have bN:((ah:Int)==254)=true:=(by rw[beq_iff_eq];omega);by_cases bi:la=0
        · have bO:((la:Int)==0)=true:=(by rw[beq_iff_eq];omega);rw[if_pos ⟨bb,bi⟩] at I;have J:=gQq I;clear I E;go_wp2;go_ret2;exact eZ J.out L.out.below
        · have bO:((la:Int)==0)=false:=(by rw[beq_eq_false_iff_ne];omega);rw[if_neg (fun ab=>bi ab.2)] at I;have J:=gQq I;clear I;by_cases O:la<254
          · have aj:(la:Int)<254:=(by omega);rw[if_pos O] at E;have Q:ys.length=xs.length+1:=(by rw[E];simp);have U:xs.length<=cap:=(by have:=z.out.mine.base.2.2;omega);have Y:=gQq E;have bs:=gQq Q;have b6:1<=ys.length:=(by omega);have b4:xs.length<=140737488351233:=(by omega);have b5:(ys.length:Int)-1=(xs.length:Int):=(by omega);clear E Q;go_wp2;go_ret2;refine dR J.out (lM (zs:=[0]) ?_) z.out.mine.base.1 U (L.out.below.setCell (p:=⟨y.1.size,0,none⟩) (by show w1.1.size<=y.1.size;exact a1) _);have ak:=dX z.out.mine (bD bn y.1.size (.slice (some ⟨s,0,none⟩) xs.length cap)) z.out.ne;rw[<-Y.out];exact ak.free
          · have aj:¬(la:Int)<254:=(by omega);rw[if_neg O,List.append_nil] at E;subst E;go_wp2;go_ret2;exact dR J.out z.out.mine.free z.out.mine.base.1 z.out.mine.base.2.2 L.out.below
      · have bN:((ah:Int)==254)=false:=(by rw[beq_eq_false_iff_ne];omega);rw[if_neg (fun ab=>bb ab.1)] at I;have J:=gQq I;clear I;by_cases O:la<254
        · have aj:(la:Int)<254:=(by omega);rw[if_pos O] at E;have Q:ys.length=xs.length+1:=(by rw[E];simp);have U:xs.length<=cap:=(by have:=z.out.mine.base.2.2;omega);have Y:=gQq E;have bs:=gQq Q;have b6:1<=ys.length:=(by omega);have b4:xs.length<=140737488351233:=(by omega);have b5:(ys.length:Int)-1=(xs.length:Int):=(by omega);clear E Q;go_wp2;go_ret2;refine dR J.out (lM (zs:=[0]) ?_) z.out.mine.base.1 U (L.out.below.setCell (p:=⟨y.1.size,0,none⟩) (by show w1.1.size<=y.1.size;exact a1) _);have ak:=dX z.out.mine (bD bn y.1.size (.slice (some ⟨s,0,none⟩) xs.length cap)) z.out.ne;rw[<-Y.out];exact ak.free
        · have aj:¬(la:Int)<254:=(by omega);rw[if_neg O,List.append_nil] at E;subst E;go_wp2;go_ret2;exact dR J.out z.out.mine.free z.out.mine.base.1 z.out.mine.base.2.2 L.out.below
end
section
open Go.RowKit
theorem qE(a b:Nat)(y:a<4294967296)(hb:b<4294967296):bits .xor .u32 (a:Int) (b:Int)=((a ^^^ b:Nat):Int):=u32_xor_nat a b y hb
theorem i6(a:Nat)(y:a<4294967296):bits .xor .u32 IntKind.u32.max (a:Int)=((a ^^^ Crc.full:Nat):Int):=by
 rw[Nat.xor_comm];exact u32_xor_nat 4294967295 a (by omega) y
theorem jS(s:Nat)(Y:s<4294967296)(b o c:Nat)(l:L8)(bj:l.length<=140737488351232)(w:World)(V:dQ w b o l):
  Calls Tryz.prog 83 #[.int .u32 s,.slice (some ⟨b,o,none⟩) l.length c] w fun e w'=>e=.returned (.int .u32 (Crc.update s l:Nat))∧w'=w:=by
 have a3:=i6 s Y;have Z:=gQq V;clear V;obtain⟨r0,K⟩:∃r0,r0=s ^^^ Crc.full:=⟨_,rfl⟩;rw[<-K] at a3;have a7:r0<4294967296:=by rw[K];exact Nat.xor_lt_two_pow (n:=32) Y (by decide)
 have aj:Hid (Crc.update s l=Crc.take r0 l ^^^ Crc.full):=by rw[K];exact rfl
 clear K;go_enter Tryz.func83,Tryz.ntmps83;go_wp2;go_loop [5,6] (fun U Q=>∃(k r:Nat),k<=l.length∧Q=.int .i64 k∧U=.int .u32 r∧r<4294967296∧Hid (r=Crc.take r0 (l.take k))) (fun _ Q=>l.length-(intOf Q).toNat);case atStart=>exact⟨0,r0,by omega,rfl,rfl,a7,rfl⟩
 case round=>
  obtain⟨k,r,bi,rfl,rfl,O,M⟩:=hrel;by_cases X:k<l.length
  ·have be:=Z.out k X;have bc:l[k].toNat<256:=l[k].toNat_lt;have a8:=qE r l[k].toNat O (by omega);obtain⟨y,J⟩:∃y,y=r ^^^ l[k].toNat:=⟨_,rfl⟩;rw[<-J] at a8;have a6:y<4294967296:=(by rw[J];exact Nat.xor_lt_two_pow (n:=32) O (by omega));have ab:Hid (Crc.steps 8 y=Crc.take r0 (l.take (k+1))):=by
    show Crc.steps 8 y=_;rw[List.take_succ_eq_append_getElem X,Crc.take_snoc,<-M.out,J];rfl
   clear J M;go_wp2;go_loop [5,7] (fun U S=>∃(j q:Nat),j<=8∧S=.int .i64 j∧U=.int .u32 q∧q<4294967296∧Hid (q=Crc.steps j y)) (fun _ S=>8-(intOf S).toNat);case atStart=>exact⟨0,y,by omega,rfl,rfl,a6,rfl⟩
   case round=>
    obtain⟨j,q,ak,rfl,rfl,a5,L⟩:=hrel;by_cases a0:j<8
    ·by_cases I:q % 2=1
     ·have hb:((q:Int) % 2==1)=true:=(by rw[beq_iff_eq];omega);have a9:bits .xor .u32 ((q:Int) / 2) 3988292384=((q / 2 ^^^ Crc.poly:Nat):Int):=by
       have:=qE (q / 2) 3988292384 (by omega) (by omega);simpa[Crc.poly] using this
      have D:Hid (q / 2 ^^^ Crc.poly=Crc.steps (j+1) y∧q / 2 ^^^ Crc.poly<4294967296):=by
       refine⟨?_,Nat.xor_lt_two_pow (n:=32) (by omega) Crc.poly_lt⟩;rw[Crc.steps_succ,<-L.out,Crc.step,if_pos I]
      generalize q / 2 ^^^ Crc.poly=bb at a9 D;clear I;go_wp2;go_round;case rel=>exact⟨j+1,bb,by omega,by go_num,rfl,D.out.2,D.out.1⟩
      case measure=>simp[intOf];omega
     ·have hb:((q:Int) % 2==1)=false:=(by rw[beq_eq_false_iff_ne];omega);have D:Hid (q / 2=Crc.steps (j+1) y):=by
       show q / 2=_;rw[Crc.steps_succ,<-L.out,Crc.step,if_neg I]
      clear I;go_wp2;go_round;case rel=>exact⟨j+1,q / 2,by omega,by go_num,by go_num,by omega,D⟩
      case measure=>simp[intOf];omega
    ·have a1:j=8:=(by omega);subst a1;have E:Hid (q=Crc.take r0 (l.take (k+1))):=by
      show q=_;rw[L.out,ab.out]
     clear a0 ak;go_wp2;go_round;case rel=>exact⟨k+1,q,by omega,by go_num,rfl,a5,E⟩
     case measure=>simp[intOf];omega
  ·have a2:k=l.length:=(by omega);subst a2;have a4:=i6 r O;have E:Hid ((r ^^^ Crc.full:Nat)=Crc.update s l):=by
    show _=_;rw[aj.out,M.out,List.take_length]
   generalize r ^^^ Crc.full=z at a4 E;go_wp2;go_ret;exact⟨by rw[<-E.out];rfl,rfl⟩
theorem jT(s:Nat)(D:s<4294967296)(p:OA)(c:Nat)(w:World):
  Calls Tryz.prog 83 #[.int .u32 s,.slice p 0 c] w fun e w'=>e=.returned (.int .u32 (s:Nat))∧w'=w:=by
 have E:=i6 s D;obtain⟨y,z⟩:∃y,y=s ^^^ Crc.full:=⟨_,rfl⟩;rw[<-z] at E;have J:y<4294967296:=by rw[z];exact Nat.xor_lt_two_pow (n:=32) D (by decide)
 have I:=i6 y J;have e:y ^^^ Crc.full=s:=by rw[z];exact Crc.flip_flip s
 rw[e] at I;clear e z;go_enter Tryz.func83,Tryz.ntmps83;go_wp2;go_loop [5,6] (fun L K=>K=.int .i64 0∧L=.int .u32 y) (fun _ _=>0);case atStart=>exact⟨rfl,rfl⟩
 case round=>
  obtain⟨rfl,rfl⟩:=hrel;go_wp2;go_ret;exact⟨rfl,rfl⟩
theorem kP(s:Nat)(y:s<4294967296)(p:OA)(c:Nat)(l:L8)(D:l.length<=140737488351232)(w:World)(h:At w p l):
  Calls Tryz.prog 83 #[.int .u32 s,.slice p l.length c] w fun e w'=>e=.returned (.int .u32 (Crc.update s l:Nat))∧w'=w:=by
 rcases h with rfl | ⟨b,o,rfl,_,z⟩
 ·rw[Crc.update_nil];exact jT s y p c w
 ·exact jS s y b o c l D w z
theorem pE(p:OA)(c:Nat)(l:L8)(D:l.length<=140737488351232)(w:World)(h:At w p l):
  Calls Tryz.prog 47 #[.slice p l.length c] w fun e w'=>e=.returned (.int .u32 (Crc.sum l:Nat))∧w'=w:=by
 have z:=gQq (kP 0 (by omega) p c l D w h);have y:Hid (Crc.update 0 l=Crc.sum l):=rfl;clear h;go_enter Tryz.func47,Tryz.ntmps47;go_wp2_with fail;refine z.out.mono ?_;rintro e w' ⟨rfl,rfl⟩;go_wp2;go_ret;exact⟨by rw[<-y.out];rfl,rfl⟩
end
section
open Go.RowKit
def Hv(w:World):Prop:=∀n (_:n<16),w.cell? ⟨2,n,none⟩=some (.int .u32 (Crc.steps 4 n:Nat))
theorem zM(r:Nat)(y:r<4294967296):bits .and .u32 (r:Int) 15=((r % 16:Nat):Int):=by
 have:=u32_and_nat r 15 y (by omega);rw[show(15:Nat)=2 ^ 4-1 from rfl,Nat.and_two_pow_sub_one_eq_mod] at this;exact this
theorem f9(r:Nat)(J:r<4294967296)(w:World)(D:Hv w):
  Calls Tryz.prog 241 #[.int .u32 r] w fun e w'=>e=.returned (.int .u32 (Crc.steps 4 r:Nat))∧w'=w:=by
 have K:=zM r J;have I:=D (r % 16) (Nat.mod_lt _ (by omega));have L:r % 16<16:=Nat.mod_lt _ (by omega);have z:Crc.steps 4 (r % 16)<4294967296:=Crc.steps_lt 4 (by omega);have E:bits .xor .u32 ((r:Int) / 16) ((Crc.steps 4 (r % 16):Nat):Int)=((r / 16 ^^^ Crc.steps 4 (r % 16):Nat):Int):=qE (r / 16) _ (by omega) z;have y:Hid (r / 16 ^^^ Crc.steps 4 (r % 16)=Crc.steps 4 r):=(Crc.nibble r).symm;generalize Crc.steps 4 (r % 16)=v at I z E y;generalize r / 16 ^^^ v=M at E y;clear D;go_enter Tryz.func241,Tryz.ntmps241;go_wp2;go_ret;exact⟨by rw[<-y.out];rfl,rfl⟩
theorem nf(s:Nat)(ab:s<4294967296)(b o c:Nat)(l:L8)(bc:l.length<=140737488351232)(w:World)(aj:Hv w)(V:dQ w b o l):
  Calls Tryz.prog 202 #[.int .u32 s,.slice (some ⟨b,o,none⟩) l.length c] w fun e w'=>e=.returned (.int .u32 (Crc.update s l:Nat))∧w'=w:=by
 have a2:=i6 s ab;have ak:=gQq V;have U:=gQq aj;clear V aj;obtain⟨r0,E⟩:∃r0,r0=s ^^^ Crc.full:=⟨_,rfl⟩;rw[<-E] at a2;have a4:r0<4294967296:=by rw[E];exact Nat.xor_lt_two_pow (n:=32) ab (by decide)
 have a0:Hid (Crc.update s l=Crc.take r0 l ^^^ Crc.full):=by rw[E];exact rfl
 clear E;go_enter Tryz.func202,Tryz.ntmps202;go_wp2;go_loop [5,12] (fun a7 M=>∃(k r:Nat),k<=l.length∧M=.int .i64 k∧a7=.int .u32 r∧r<4294967296∧Hid (r=Crc.take r0 (l.take k))) (fun _ M=>l.length-(intOf M).toNat);case atStart=>exact⟨0,r0,by omega,rfl,rfl,a4,rfl⟩
 case round=>
  obtain⟨k,r,bb,rfl,rfl,L,J⟩:=hrel;by_cases X:k<l.length
  ·have a9:=ak.out k X;have a8:l[k].toNat<256:=l[k].toNat_lt;have a5:=qE r l[k].toNat L (by omega);obtain⟨y,D⟩:∃y,y=r ^^^ l[k].toNat:=⟨_,rfl⟩;rw[<-D] at a5;have Y:y<4294967296:=(by rw[D];exact Nat.xor_lt_two_pow (n:=32) L (by omega));have S:Hid (Crc.steps 4 (Crc.steps 4 y)=Crc.take r0 (l.take (k+1))):=by
    show Crc.steps 4 (Crc.steps 4 y)=_;rw[<-Crc.byte_nibbles,List.take_succ_eq_append_getElem X,Crc.take_snoc,<-J.out,D];rfl
   have K:Crc.steps 4 y<4294967296:=Crc.steps_lt 4 Y;have Z:Crc.steps 4 (Crc.steps 4 y)<4294967296:=Crc.steps_lt 4 K;have O:=gQq (f9 y Y w U.out);have I:=gQq (f9 _ K w U.out);generalize Crc.steps 4 (Crc.steps 4 y)=a6 at S Z I;generalize Crc.steps 4 y=be at K O I;clear D J;go_wp2_with fail;refine O.out.mono ?_;rintro e w' ⟨rfl,rfl⟩;go_wp2_with fail;refine I.out.mono ?_;rintro e w' ⟨rfl,rfl⟩;go_wp2;go_round;case rel=>exact⟨k+1,a6,by omega,by go_num,rfl,Z,S⟩
   case measure=>simp[intOf];omega
  ·have a1:k=l.length:=(by omega);subst a1;have a3:=i6 r L;have Q:Hid ((r ^^^ Crc.full:Nat)=Crc.update s l):=by
    show _=_;rw[a0.out,J.out,List.take_length]
   generalize r ^^^ Crc.full=z at a3 Q;go_wp2;go_ret;exact⟨by rw[<-Q.out];rfl,rfl⟩
theorem ng(s:Nat)(D:s<4294967296)(p:OA)(c:Nat)(w:World):
  Calls Tryz.prog 202 #[.int .u32 s,.slice p 0 c] w fun e w'=>e=.returned (.int .u32 (s:Nat))∧w'=w:=by
 have E:=i6 s D;obtain⟨y,z⟩:∃y,y=s ^^^ Crc.full:=⟨_,rfl⟩;rw[<-z] at E;have J:y<4294967296:=by rw[z];exact Nat.xor_lt_two_pow (n:=32) D (by decide)
 have I:=i6 y J;have e:y ^^^ Crc.full=s:=by rw[z];exact Crc.flip_flip s
 rw[e] at I;clear e z;go_enter Tryz.func202,Tryz.ntmps202;go_wp2;go_loop [5,12] (fun L K=>K=.int .i64 0∧L=.int .u32 y) (fun _ _=>0);case atStart=>exact⟨rfl,rfl⟩
 case round=>
  obtain⟨rfl,rfl⟩:=hrel;go_wp2;go_ret;exact⟨rfl,rfl⟩
theorem oZ(s:Nat)(y:s<4294967296)(p:OA)(c:Nat)(l:L8)(D:l.length<=140737488351232)(w:World)(E:Hv w)(h:At w p l):
  Calls Tryz.prog 202 #[.int .u32 s,.slice p l.length c] w fun e w'=>e=.returned (.int .u32 (Crc.update s l:Nat))∧w'=w:=by
 rcases h with rfl | ⟨b,o,rfl,_,z⟩
 ·rw[Crc.update_nil];exact ng s y p c w
 ·exact nf s y b o c l D w E z
theorem wE(p:OA)(c:Nat)(l:L8)(E:l.length<=140737488351232)(w:World)(y:Hv w)(h:At w p l):
  Calls Tryz.prog 152 #[.slice p l.length c] w fun e w'=>e=.returned (.int .u32 (Crc.sum l:Nat))∧w'=w:=by
 have D:=gQq (oZ 0 (by omega) p c l E w y h);have z:Hid (Crc.update 0 l=Crc.sum l):=rfl;clear h y;go_enter Tryz.func152,Tryz.ntmps152;go_wp2_with fail;refine D.out.mono ?_;rintro e w' ⟨rfl,rfl⟩;go_wp2;go_ret;exact⟨by rw[<-z.out];rfl,rfl⟩
end
end Go.Proofs.YtbahfgdbjgkklaaGreatDoor
