import Derived.Test.YtdkammppnkhhoaaGreatDoorB02
import Derived.Deep.RegionHeld3
set_option maxRecDepth 100000
set_option maxHeartbeats 4000000
namespace Go.Proofs.YtdkammppnkhhoaaGreatDoor
variable{B ah b cap' g k la o s s':Nat}{W W' w w':World}{l xs ys zs:L8}{v:Value}{p:OA}{T:TypeId}
section
open Go.RowKit
def gI(l:L8)(k:Nat):Prop:=k<=l.length∧(∀j (h:j<l.length),j<k->l[j]≠0)∧∀h:k<l.length,l[k]=0
theorem kM(b o c:Nat)(l:L8)(V:l.length<=140737488351232)(w:World)(E:bR w b o l):
    Calls Tryz.prog 134 #[.slice (some ⟨b,o,none⟩) l.length c] w fun e w'=>∃k:Nat,e=.returned (.int .i64 k)∧gI l k∧w'=w:=by
  have K:=xX E;clear E;go_enter Tryz.func134,Tryz.ntmps134;go_wp2;go_loop [3,4,7] (fun _ _ I=>∃i:Nat,i<=l.length∧I=.int .i64 i∧Hid (∀j (h:j<l.length),j<i->l[j]≠0)) (fun _ _ I=>l.length-(intOf I).toNat);case atStart=>exact⟨0,by omega,rfl,fun j _ J=>by omega⟩
  case round=>
    obtain⟨i,U,rfl,y⟩:=hrel;by_cases O:i<l.length
    · have R:=K.out i O;have X:(i:Int)<(l.length:Int):=(by omega);by_cases z:l[i]=0
      · have D:Hid (gI l i):=⟨by omega,y.out,fun _=>z⟩;have hb:((l[i].toNat:Int)==0)=true:=(by rw[z];rfl);clear y z;go_wp2;go_ret;exact⟨i,rfl,D.out,rfl⟩
      · have L:Hid (∀j (h:j<l.length),j<i+1->l[j]≠0):=fun j h J=>by
          rcases Nat.lt_succ_iff_lt_or_eq.1 J with A | A
          · exact y.out j h A
          · subst A;exact z
        have hb:((l[i].toNat:Int)==0)=false:=by
          rw[beq_eq_false_iff_ne];intro E
          exact z (UInt8.toNat_inj.1 (by have:l[i].toNat=0:=(by omega);rw[this];rfl))
        clear y z;go_wp2;go_round;case rel=>exact⟨i+1,by omega,by go_num,L⟩
        case measure=>simp[intOf];omega
    · have M:i=l.length:=(by omega);subst M;have D:Hid (gI l l.length):=⟨xZ,y.out,fun h=>by omega⟩;clear y;go_wp2;go_ret;exact⟨_,rfl,D.out,rfl⟩
theorem je(p:OA)(c:Nat)(w:World):
  Calls Tryz.prog 134 #[.slice p 0 c] w fun e w'=>e=.returned (.int .i64 0)∧w'=w:=by
 go_enter Tryz.func134,Tryz.ntmps134;go_wp2;go_loop [3,4,7] (fun _ _ y=>y=.int .i64 0) (fun _ _ _=>0);case atStart=>exact rfl
 case round=>
  subst hrel;go_wp2;go_ret;exact⟨rfl,rfl⟩
theorem fV(p:OA)(c:Nat)(l:L8)(z:l.length<=140737488351232)(w:World)(h:At w p l):
  Calls Tryz.prog 134 #[.slice p l.length c] w fun e w'=>∃k:Nat,e=.returned (.int .i64 k)∧gI l k∧w'=w:=by
 rcases h with rfl | ⟨b,o,rfl,_,y⟩
 ·refine(je p c w).mono ?_;rintro e w' ⟨rfl,rfl⟩;exact⟨0,rfl,⟨xZ,fun j h=>by simp at h,fun h=>by simp at h⟩,rfl⟩
 ·exact kM b o c l z w y
end
section
open Go.RowKit
theorem fY(h:At w (some ⟨b,o,none⟩) l)(k:Nat):At w (some ⟨b,o+k,none⟩) (l.drop k):=by
 rcases h with rfl | ⟨b,o,A,y,z⟩
 ·exact .inl (by simp)
 ·cases A
  exact .inr ⟨_,_,rfl,y,cu z k⟩
theorem at_take(h:At w p l)(k:Nat):At w p (l.take k):=by
 rcases h with rfl | ⟨b,o,rfl,y,z⟩
 ·exact .inl (by simp)
 ·exact .inr ⟨b,o,rfl,y,dq z k⟩
section
open Cob
theorem mR{a m:Nat}(h:Writing l a true xs)(aj:m=min (l.length-a) 254)(R:gI ((l.drop a).take m) k):
  (k=l.length-a->stuff l=xs++[UInt8.ofNat (k+1)]++(l.drop a).take k)∧(k<l.length-a->k<254->Writing l (a+k+1) true (xs++[UInt8.ofNat (k+1)]++(l.drop a).take k)) ∧
  (k<l.length-a->¬k<254->Writing l (a+k) true (xs++[UInt8.ofNat (k+1)]++(l.drop a).take k))∧k<=254∧k<=l.length-a∧xs.length+1+k<=l.length+1+l.length / 254:=by
 obtain⟨L,M,O⟩:=R;have Y:=h.1;have E:((l.drop a).take m).length=m:=by rw[List.length_take,List.length_drop];omega
 rw[E] at L;have I:∀j,j<k->∀h:a+j<l.length,l[a+j]≠0:=fun j V Z=>by
  have:=M j (by rw[E];omega) V;rwa [List.getElem_take,List.getElem_drop] at this
 have D:∀ys:L8,ys=xs++[UInt8.ofNat (k+1)]++(l.drop a).take k->ys.length<=l.length+1+l.length / 254->xs.length+1+k<=l.length+1+l.length / 254:=fun ys e J=>by
  rw[e] at J;simp only[List.length_append,List.length_cons,List.length_nil,List.length_take,List.length_drop] at J;omega
 by_cases A:k<254
 ·by_cases U:a+k=l.length
  ·have y:=writing_end h A U I;exact⟨fun _=>y.2.2 rfl,fun z=>by omega,fun z=>by omega,by omega,by omega,D _ rfl (writing_bound y)⟩
  ·have K:l[a+k]'(by omega)=0:=by
    have:=O (by rw[E];omega);rwa [List.getElem_take,List.getElem_drop] at this
   have y:=writing_zero h A (by omega) I K;exact⟨fun z=>by omega,fun _ _=>y,fun _ z=>absurd A z,by omega,by omega,D _ rfl (writing_bound y)⟩
 ·have X:k=254:=by omega
  subst X;have y:=writing_full h (by omega) I;refine⟨fun z=>y.2.2 (decide_eq_false (by omega)),fun _ z=>absurd z A,fun z _=>?_,by omega,by omega,D _ rfl (writing_bound y)⟩;rw[decide_eq_true (show a+254<l.length by omega)] at y;exact y
end
theorem eG{P:Program}{f:FuncId}{fn:Func}{c:Code}(z : P.funcs[f]?=some fn)(A : (fn.name== "runtime.NumGoroutine")=false)(hb : fn.body=some c)(args : AV)(w : World):
  (callFunc f args).run P w=.ok (.enter f args) w:=by
 have y : fn.name≠ "runtime.NumGoroutine" := by simpa using A
 simp[callFunc,z,y,hb]
def nT:Value->Nat
 |.slice _ n _=>n
 |_=>0
theorem et(f:FuncId)(g:Addr)(z:L8->World->Prop)(p:OA)(c:Nat)(l:L8)(w:World)(be:l.length<=1073741824)(a7:l.length<=c)(a9:∀(args:AV) (w:World),(callFunc f args).run Tryz.prog w=.ok (.enter f args) w)(V:∀xs w',z xs w'->At w' p l)(Y:z [] w)(aj:∀xs q k t w',z xs w'->(∀ys D,z ys D->At D q t)->t.length<=254->xs.length+1+t.length<=2147483648->t.length<=k ->
   Calls Tryz.prog f #[.slice q t.length k,.pointer (some g)] w' fun e D=>e=.returned (.tuple #[])∧z (xs++[UInt8.ofNat (t.length+1)]++t) D):
  Calls Tryz.prog 100 #[.slice p l.length c,.func (.func f) #[] #[.pointer (some g)]] w fun e w'=>e=.returned (.tuple #[])∧z (Cob.stuff l) w':=by
 have a2:=xX V;have a3:=xX Y;have a5:=xX aj;clear V Y aj;go_enter Tryz.func100,Tryz.ntmps100;go_wp2;go_loopw [0,4] (fun M _ wr=>∃(a n:Nat) (xs:L8) (q:OA) (d:Nat),a+n=l.length∧M=.slice q n d∧n<=d∧Hid ((∀ys w',z ys w'->At w' q (l.drop a))∧Cob.Writing l a true xs∧z xs wr)) (fun M _ _=>nT M);case atStart=>exact⟨0,l.length,[],p,c,by omega,rfl,a7,a2.out,Cob.writing_start l,a3.out⟩
 case round=>
  obtain⟨a,n,xs,q,d,bb,rfl,bl,y⟩:=hrel;obtain⟨m,a0⟩:∃m,m=min (l.length-a) 254:=⟨_,rfl⟩;have bk:(if (254:Int)<(n:Int) then (254:Int) else (n:Int))=(m:Int):=by split <;> omega
  have bj:m<=d:=by omega
  have a1:((l.drop a).take m).length=m:=by rw[List.length_take,List.length_drop];omega
  have J:=fV q d ((l.drop a).take m) (by omega) wr (at_take (y.out.1 _ _ y.out.2.2) m);rw[a1] at J;have R:=xX J;have a4:=xX a0;clear J a0 a1;go_wp2_with fail;refine R.out.mono ?_;rintro e w1 ⟨k,rfl,X,rfl⟩;have A:=xX (mR y.out.2.1 a4.out X);have bd:k<=n:=by have:=A.out.2.2.2.2.1;omega
  have bc:=A.out.2.2.2.1;have bn:=A.out.2.2.2.2.2;have ak:((l.drop a).take k).length=k:=by rw[List.length_take,List.length_drop];omega
  have L:=a5.out xs q d ((l.drop a).take k) w1 y.out.2.2 (fun ys D h=>at_take (y.out.1 ys D h) k) (by omega) (by omega) (by omega);rw[ak] at L;have O:=xX L;clear X L ak R;go_wp2_with fail;refine O.out.mono ?_;rintro e bq ⟨rfl,Z⟩;have I:=xX Z;clear Z O;by_cases a6:k=n
  ·subst a6;have bp:((k:Int)-(k:Int)==0)=true:=(by simp);go_wp2
   all_goals
    refine bodyPost_ret (results_none rfl _ _ _) rfl ?_;rw[A.out.1 (by omega)];exact⟨rfl,I.out⟩
  ·obtain⟨b,o,rfl,-⟩:=aL (y.out.1 _ _ I.out) (by rw[List.length_drop];omega);by_cases U:k<254
   ·have a8:(k:Int)<254:=(by omega);go_wp2;go_roundw;case rel=>
     refine⟨a+k+1,n-k-1,_,_,_,by omega,rfl,by omega,fun ys w' K=>?_,A.out.2.1 (by omega) U,I.out⟩;have E:=fY (fY (y.out.1 ys w' K) k) 1;rw[List.drop_drop,List.drop_drop] at E;split
     ·exact .inl (List.drop_eq_nil_of_le (by omega))
     ·exact E
    case measure=>simp[nT];omega
   ·go_wp2;go_roundw;case rel=>
     refine⟨a+k,n-k,_,_,_,by omega,rfl,by omega,fun ys w' K=>?_,A.out.2.2.1 (by omega) U,I.out⟩;have E:=fY (y.out.1 ys w' K) k;rw[List.drop_drop] at E;exact E
    case measure=>simp[nT];omega
end
section
open Go.RowKit
theorem one_cell(h:w.1[b]?=some (.cells #[v] T (0,0))):w.cell? ⟨b,0,none⟩=some v:=by
 simp[World.cell?,h]
theorem bW(h:w.1[b]?=some (.cells #[v] T (0,0))):w.frozen? ⟨b,0,none⟩=false:=by
 simp[World.frozen?,h]
theorem one_set(h:w.1[b]?=some (.cells #[v] T (0,0)))(u:Value):(w.setCell ⟨b,0,none⟩ u).1[b]?=some (.cells #[u] T (0,0)):=by
 simp[World.setCell,Array.getElem?_modify,h]
theorem sd{o:Obj}(h:w.1[b]?=some o):b<w.1.size:=(Array.getElem?_eq_some_iff.1 h).1
structure Var(w:World)(B g s cap:Nat)(xs:L8):Prop where
 box:w.1[g]?=some (.cells #[.slice (some ⟨s,0,none⟩) xs.length cap] 22 (0,0))
 mine:bA w B s cap xs
theorem nQ{cap:Nat}(h:bA w B s cap xs):∃y,w.1[s]?=some (.cells y 5 (0,0)):=by
 rcases h.2 with ⟨z,_⟩ | ⟨g,c,y,z,_,A,_⟩
 ·cases z
 ·cases z;exact⟨y,A⟩
theorem eQ{cap:Nat}{C:AV}(h:bA w B s cap xs)(y:w.1[g]?=some (.cells C T (0,0)))(z:T≠5):s≠g:=by
 rintro rfl;obtain⟨D,A⟩:=nQ h;rw[A] at y;injection y with h1;injection h1 with h2 h3;exact z h3.symm
theorem dm{cap:Nat}(h:bA w B s cap xs)(z:w.grownBy W (some b))(A:s≠b):bA W B s cap xs :=
 World.ownsRow.kept h z (.inr (fun y=>A (Option.some.inj y)))
theorem bC(W:World)(b:Nat)(v:Value):W.grownBy (W.setCell ⟨b,0,none⟩ v) (some b) :=
 ⟨rfl,rfl,rfl,by simp[World.setCell],fun i _ z=>Below.heap_setCell _ _ _ _ (fun y=>z (by rw[y]))⟩
theorem mz{a b c:World}{row:Option Nat}(h:a.grownBy b row)(k:b.grownBy c row):a.grownBy c row :=
 ⟨k.os.trans h.os,k.tape.trans h.tape,k.output.trans h.output,Nat.le_trans h.size k.size,fun i y z=>(k.block i (Nat.lt_of_lt_of_le y h.size) z).trans (h.block i y z)⟩
theorem oc(w:World)(row:Option Nat):w.grownBy w row:=⟨rfl,rfl,rfl,xZ,fun _ _ _=>rfl⟩
theorem Var.ne{cap:Nat}(h:Var w B g s cap xs):s≠g:=eQ h.mine h.box (by decide)
theorem Var.still{cap:Nat}(h:Var w B g s cap xs)(z:w.grownBy W (some s)):W.1[g]?=some (.cells #[.slice (some ⟨s,0,none⟩) xs.length cap] 22 (0,0)) :=
 (z.block g (sd h.box) (fun y=>h.ne (Option.some.inj y).symm)).trans h.box
theorem eP{cap n:Nat}(hb:W.1[g]?=some (.cells #[.slice (some ⟨s,0,none⟩) n cap] 22 (0,0)))(y:bA W B s' cap' ys):
  Var (W.setCell ⟨g,0,none⟩ (.slice (some ⟨s',0,none⟩) ys.length cap')) B g s' cap' ys :=
 ⟨one_set hb _,dm y (bC W g _) (eQ y hb (by decide))⟩
theorem lN(B s cap:Nat)(xs l:L8)(p:OA)(c:Nat)(w:World)(E:bA w B s cap xs)(h:At w p l)(a2:xs.length+l.length<=140737488355328)(R:B<=w.1.size):
  ∃(s' cap':Nat) (W:World),bJ Tryz.prog 22 22 22 (.slice (some ⟨s,0,none⟩) xs.length cap) (.slice p l.length c) w (.slice (some ⟨s',0,none⟩) (xs++l).length cap') W∧bA W B s' cap' (xs++l)∧w.grownBy W (some s):=by
 obtain⟨i,L,a0,M,U⟩:=info_parts fT;cases p with
 |none=>
  have O:l=[]:=by
   rcases h with rfl | ⟨b,o,J,_,_⟩
   ·rfl
   ·cases J
  subst O;have K:=run_append_room_src (P:=Tryz.prog) w 22 22 22 5 i Tryz.underlying22 L s 0 xs.length cap (.slice none 0 c) 0 [] (by rw[M];exact gv c h) (by have:=E.base.2.2;omega) (fun j y=>by simp at y) (fun j y=>by simp at y);refine⟨s,cap,w,⟨?_⟩,by rw[List.append_nil];exact E,oc _ _⟩;rw[List.append_nil];exact K
 |some a=>
  have X:∀j u,(cellsOf l)[j]?=some u->w.cell? (a.add j)=some u:=fun j u y=>by
   have D:j<l.length:=by
    have:=(List.getElem?_eq_some_iff.1 y).1;simpa[cellsOf] using this
   rcases h with rfl | ⟨b,o,J,_,V⟩
   ·simp at D
   ·cases J
    rw[br l j D] at y;cases y
    rw[Lib.add_plain];exact V j D
  obtain⟨a1,W,K,I,Z,aj⟩:=run_append_own (P:=Tryz.prog) w B 22 22 5 i (.int .u8 0) 1 1 Tryz.underlying22 L a0 M U rfl (by decide) _ xs.length (cellsOf xs) E a l.length c (cellsOf l) (by rw[aS,Nat.mul_one]) X
   (fun u ak=>by obtain⟨_,_,rfl⟩:=List.mem_map.1 ak;rfl) (by unfold maxLen;omega) (by omega) R
  rw[<-bD,<-List.length_append] at I;have Y:∃z cap',a1=.slice (some ⟨z,0,none⟩) (xs++l).length cap':=by
   rcases I.2 with ⟨A,_⟩ | ⟨z,cap',_,A,_⟩
   ·have:=(aj.1 A).1;cases this
   ·exact⟨z,cap',A⟩
  obtain⟨z,cap',rfl⟩:=Y;exact⟨z,cap',W,⟨K⟩,I,Z⟩
theorem lA{cap:Nat}(X:bA w B s cap xs)(c:UInt8)(R:xs.length+1<=140737488355328)(D:B<=w.1.size){y:Int}{ops:Array Oper}{rest:List Oper}{o:Oper}{a:Act}{Q:Exit->Act->World->Prop}{A x:Operand}(a1:y=(c.toNat:Int))(ak:o.type=22)(K:o.guard=none)(V:o.op=Op.call { callee:=Callee.builtin Builtin.append,args:=#[A,x],argTypes:=#[22,22] })(aj:a.eval A=.slice (some ⟨s,0,none⟩) xs.length cap){ad:Nat}(a0:a.eval x=.slice (some ⟨ad,0,none⟩) 1 1)(I:ad=w.1.size)(E:∀ys s' cap' W,Hid (ys=xs++[c])->bA W B s' cap' ys->w.grownBy W (some s)->wpList Tryz.prog ops Q rest (a.put o.dst (.slice (some ⟨s',0,none⟩) ys.length cap')) W):
  wpList Tryz.prog ops Q (o::rest) a (w.alloc (.cells #[.int .u8 y] 5)):=by
 subst I;have J:At (w.alloc (.cells #[.int .u8 y] 5)) (some ⟨w.1.size,0,none⟩) [c]:=by
  refine .inr ⟨_,_,rfl,by simp,fun j M=>?_⟩;have O:j=0:=by simp at M;omega
  subst O;rw[World.cell?_alloc_new,a1];rfl
 have z:=World.grownBy_alloc w (.cells #[.int .u8 y] 5) (some s);obtain⟨s',cap',W,Y,U,L⟩:=lN B s cap xs [c] (some ⟨w.1.size,0,none⟩) 1 _ (World.ownsRow.alloc X _) J (by simpa using R) (Nat.le_trans D z.size);have Z:bJ Tryz.prog 22 22 o.type (.slice (some ⟨s,0,none⟩) xs.length cap) (.slice (some ⟨w.1.size,0,none⟩) 1 1) (w.alloc (.cells #[.int .u8 y] 5)) (.slice (some ⟨s',0,none⟩) (xs++[c]).length cap') W:=by rw[ak];exact Y
 exact aF Z K V aj a0 (E _ s' cap' W (xX rfl) U (mz z L))
theorem iG{cap:Nat}(L:bA w B s cap xs)(h:At w p l)(I:xs.length+l.length<=140737488355328)(z:B<=w.1.size){ops:Array Oper}{rest:List Oper}{o:Oper}{a:Act}{Q:Exit->Act->World->Prop}{y x:Operand}(U:o.type=22)(D:o.guard=none)(K:o.op=Op.call { callee:=Callee.builtin Builtin.append,args:=#[y,x],argTypes:=#[22,22] })(R:a.eval y=.slice (some ⟨s,0,none⟩) xs.length cap)(V:a.eval x=.slice p l.length k)(A:∀ys s' cap' W,Hid (ys=xs++l)->bA W B s' cap' ys->w.grownBy W (some s)->wpList Tryz.prog ops Q rest (a.put o.dst (.slice (some ⟨s',0,none⟩) ys.length cap')) W):
  wpList Tryz.prog ops Q (o::rest) a w:=by
 obtain⟨s',cap',W,M,J,E⟩:=lN B s cap xs l p k w L h I z;have O:bJ Tryz.prog 22 22 o.type (.slice (some ⟨s,0,none⟩) xs.length cap) (.slice p l.length k) w (.slice (some ⟨s',0,none⟩) (xs++l).length cap') W:=by rw[U];exact M
 exact aF O D K R V (A _ s' cap' W (xX rfl) J E)
end
section
open Go.RowKit
def wS(w:World)(xs:L8)(w':World):Prop:=Below w.1.size w w'∧w'.1[w.1.size]?=some (.cells #[.int .i64 xs.length] 3 (0,0))
theorem sG(w:World)(xs t:L8)(q:OA)(k:Nat)(w':World)(h:wS w xs w')(hb:xs.length+1+t.length<=2147483648):
  Calls Tryz.prog 133 #[.slice q t.length k,.pointer (some ⟨w.1.size,0,none⟩)] w' fun e y=>e=.returned (.tuple #[])∧wS w (xs++[UInt8.ofNat (t.length+1)]++t) y:=by
 have z:=one_cell h.2;have A:=bW h.2;have H:=xX h;clear h;go_enter Tryz.func133,Tryz.ntmps133;go_wp2;go_end0;refine⟨rfl,H.out.1.setCell xZ _,?_⟩;rw[one_set H.out.2];simp;omega
theorem xP(p:OA)(c:Nat)(l:L8)(w:World)(D:l.length<=1073741824)(E:l.length<=c)(h:At w p l):
  Calls Tryz.prog 99 #[.slice p l.length c] w fun e w'=>e=.returned (.int .i64 ((Cob.stuff l).length:Nat))∧Below w.1.size w w':=by
 have z:=xX h;clear h;go_enter Tryz.func99,Tryz.ntmps99;go_wp2_with fail;refine(et 133 ⟨w.1.size,0,none⟩ (wS w) p c l _ D E (fun args w=>eG Tryz.func133 (by kernel_rfl) rfl args w) (fun xs w' y=>z.out.on y.1) ?_ (fun xs q k t w' y _ _ hb _=>sG w xs t q k w' y hb)).mono ?_
 ·exact⟨xV,bB w _⟩
 ·rintro e w1 ⟨rfl,y⟩;have I:=one_cell y.2;have A:=xX y.1;clear y;go_wp2;go_ret;exact⟨rfl,A.out⟩
end
section
open Go.RowKit
def uT(w:World)(g:Nat)(xs:L8)(w':World):Prop:=Below w.1.size w w'∧w.1.size<=g∧∃s cap,Var w' w.1.size g s cap xs
theorem gu(h:Below w.1.size w W)(A:w.1.size<=s)(y:W.grownBy W' (some s)):Below w.1.size w W' :=
 h.grown y h.size (fun k z=>by cases z;exact A)
theorem rq(w:World)(g:Nat)(xs t:L8)(q:OA)(k:Nat)(w':World)(h:uT w g xs w')(Y:∀ys I,uT w g ys I->At I q t)(a7:t.length<=254)(hb:xs.length+1+t.length<=2147483648):
    Calls Tryz.prog 101 #[.slice q t.length k,.pointer (some ⟨g,0,none⟩)] w' fun e I=>e=.returned (.tuple #[])∧uT w g (xs++[UInt8.ofNat (t.length+1)]++t) I:=by
  obtain⟨K,E,s,cap,L⟩:=h;have bc:=one_cell L.box;have a6:(UInt8.ofNat (t.length+1)).toNat=t.length+1:=Cob.len_byte _ a7;have a2:=xX Y;have z:=xX L;have a0:=xX K;have a5:=K.size;clear L K Y;generalize UInt8.ofNat (t.length+1)=U at a6;go_enter Tryz.func101,Tryz.ntmps101
  go_wp2_with (first|(at_builtin;refine lA z.out.mine U (by omega) a5 (by omega) rfl rfl rfl rfl rfl rfl ?_;intro ys Z O a9 M V A;have bk:=bW (z.out.still A);have bd:=one_cell (z.out.still A);have y:=xX (eP (z.out.still A) V);have J:=xX ((gu a0.out z.out.mine.base.1 A).setCell (p:=⟨g,0,none⟩) E (.slice (some ⟨Z,0,none⟩) ys.length O));have be:=one_cell y.out.box;have ak:=xX (a2.out _ _ ⟨J.out,E,Z,O,y.out⟩);have bn:ys.length<=xs.length+1:=(by rw[M.out];simp);clear V A)|(at_builtin;refine iG y.out.mine ak.out (by omega) J.out.size rfl rfl rfl rfl rfl ?_;intro zs aj R bb a4 X D;have bl:=bW (y.out.still D);have bj:=one_cell (y.out.still D);have a3:=xX (eP (y.out.still D) X);have a1:=xX ((gu J.out y.out.mine.base.1 D).setCell (p:=⟨g,0,none⟩) E (.slice (some ⟨aj,0,none⟩) zs.length R));clear X D))
  go_end0;have a8:zs=xs++[U]++t:=by rw[a4.out,M.out]
  rw[<-a8];exact⟨rfl,a1.out,E,aj,R,a3.out⟩
theorem kv(p:OA)(c:Nat)(l:L8)(w:World)(U:l.length<=1073741824)(V:l.length<=c)(h:At w p l):
    Calls Tryz.prog 72 #[.slice p l.length c] w fun e w'=>∃g o cap,e=.returned (.slice (some ⟨g,o,none⟩) (Cob.stuff l).length cap)∧eW w' g o (Cob.stuff l)∧w.1.size<=g∧(Cob.stuff l).length<=cap∧Below w.1.size w w':=by
  obtain⟨a7,z,a4,a5,a6⟩:=info_parts fT;have Y:=xX h;have a0:=(Cob.stuff_length l).2;obtain⟨n,E⟩:∃n,n=(Cob.stuff l).length:=⟨_,rfl⟩;have K:=xX (xP p c l w U V h);rw[<-E] at K a0;clear h;have a8:=xX E;clear E;go_enter Tryz.func72,Tryz.ntmps72;go_wp2_with fail;refine K.out.mono ?_;rintro e w1 ⟨rfl,D⟩;have Z:=xX D;have L:=D.size;clear D
  go_wp2_with (first|(at_make;refine wpList_make_own _ rfl _ _ 22 rfl w.1.size 5 a7 (.int .u8 0) 1 Tryz.underlying22 z a4 a5 .i64 .i64 n n rfl rfl rfl (by rw[a6];omega) (by unfold maxLen;omega) L ?_;intro y X R;have ak:Hid (bA y w.1.size w1.1.size n []):=X;have J:=xX R;clear X R)|fail)
  have bc:w1.1.size<=y.1.size:=J.out.size;have M:Below w.1.size w y:=Z.out.grown J.out L (fun k a1=>by cases a1);refine(et 101 ⟨y.1.size,0,none⟩ (uT w y.1.size) p c l _ U V (fun args w=>eG Tryz.func101 (by kernel_rfl) rfl args w) (fun xs w' z=>Y.out.on z.1) ?_ (fun xs q k t w' z a2 a3 hb _=>rq w y.1.size xs t q k w' z a2 a3 hb)).mono ?_
  · exact⟨M.alloc (by omega) _,by omega,w1.1.size,n,⟨bB y _,World.ownsRow.alloc ak.out _⟩⟩
  · rintro e bd ⟨rfl,O,bb,s,cap,I⟩;have a9:=one_cell I.box;have aj:=xX O;have A:=xX I;clear O I M;go_wp2;go_ret;exact⟨s,0,cap,rfl,A.out.mine.free,A.out.mine.base.1,A.out.mine.base.2.2,aj.out⟩
end
section
open Go.RowKit
theorem ii(p:OA)(c:Nat)(v:Value)(w:World):Calls Tryz.prog 136 #[.slice p 0 c,v] w fun e w'=>e=.returned (.int .i64 30)∧w'=w:=by
 go_enter Tryz.func136,Tryz.ntmps136;go_wp2;go_ret;exact⟨rfl,rfl⟩
theorem jA(f:FuncId)(O R U:Addr)(y:L8->Nat->Nat->World->Prop)(b o c:Nat)(l:L8)(w:World)(b4:l.length<=140737488351232)(bq:l.length<=c)(Z:l≠[])(bb:Cob.Nz l)(b1:∀(args:AV) (w:World),(callFunc f args).run Tryz.prog w=.ok (.enter f args) w)(a4:∀ys la ah w',y ys la ah w'->At w' (some ⟨b,o,none⟩) l)(a5:y [] 0 0 w)(a6:∀ys la ah q k t w',y ys la ah w'->(∀ys la ah A,y ys la ah A->At A q t)->t.length<=254->ys.length+t.length+1<=140737488355328->la<=254 ->
   Calls Tryz.prog f #[.slice q t.length k,.pointer (some O),.pointer (some R),.pointer (some U)] w' fun e A=>e=.returned (.tuple #[])∧y (ys++t++if t.length<254 then [0] else []) t.length la A):
  Calls Tryz.prog 136 #[.slice (some ⟨b,o,none⟩) l.length c,.func (.func f) #[] #[.pointer (some O),.pointer (some R),.pointer (some U)]] w fun e w'=>
   ∃ys la ah,y ys la ah w'∧((e=.returned (.int .i64 30)∧Cob.un l=(30,[]))∨(e=.returned (.int .i64 0)∧Cob.Rd l l.length ys la ah)):=by
 have bd:=xX a4;have be:=xX a5;have bk:=xX a6;have a2:=xX bb;have b9:0<l.length:=List.length_pos_iff.2 Z;have bj:=xX Z;have b8:((l.length:Int)==0)=false:=by rw[beq_eq_false_iff_ne];omega
 clear a4 a5 a6 bb Z;go_enter Tryz.func136,Tryz.ntmps136;go_wp2;go_loopw [0,5] (fun aj _ wr=>∃(a n:Nat) (ys:L8) (la ah:Nat) (q:OA) (d:Nat),a+n=l.length∧aj=.slice q n d∧n<=d∧Hid ((∀ys la ah w',y ys la ah w'->At w' q (l.drop a))∧Cob.Rd l a ys la ah∧y ys la ah wr)) (fun aj _ _=>nT aj);case atStart=>exact⟨0,l.length,[],0,0,_,c,by omega,rfl,bq,bd.out,Cob.rd_start bj.out,be.out⟩
 case round=>
  obtain⟨a,n,ys,la,ah,q,d,b2,rfl,b7,z⟩:=hrel;by_cases bs:n=0
  ·subst bs;go_wp2;go_ret;obtain⟨-,a3,bl⟩:=z.out;rw[show a=l.length by omega] at a3;exact⟨ys,la,ah,bl,.inr ⟨rfl,a3⟩⟩
  ·have V:a<l.length:=(by omega);obtain⟨b0,cc,rfl,b6,a7⟩:=aL (z.out.1 _ _ _ _ z.out.2.2) (by rw[List.length_drop];omega);have X:=a7 0 (by rw[List.length_drop];omega);rw[List.getElem_drop] at X;simp only[Nat.add_zero] at X;have bc:l[a]≠0:=a2.out _ (List.getElem_mem V);have bO:1<=l[a].toNat:=by
    rcases Nat.eq_zero_or_pos l[a].toNat with h | h
    ·exact absurd (UInt8.toNat_inj.1 (by rw[h];rfl)) bc
    ·exact h
   have bT:=l[a].toNat_lt;obtain⟨k,Y⟩:∃k,l[a].toNat=k+1:=⟨l[a].toNat-1,by omega⟩;rw[Y] at X bT;have a1:=xX Y;have a0:=xX (z.out.1);clear bc bO Y a7;by_cases cb:n<k+1
   ·go_wp2;go_ret;exact⟨ys,la,ah,z.out.2.2,.inl ⟨rfl,Cob.rd_short a2.out z.out.2.1 V (by have:=a1.out;omega)⟩⟩
   ·have L:=xX (Cob.rd_next z.out.2.1 V k a1.out (by omega));have b5:=Cob.rd_le z.out.2.1;have a9:((l.drop (a+1)).take k).length=k:=(by rw[List.length_take,List.length_drop];omega);have b3:k<=254:=by omega
    have a8:∀(K:OA) (M:Nat),(∀ys la ah w',y ys la ah w'->At w' K ((l.drop (a+1)).take k)) ->
      Calls Tryz.prog f #[.slice K k M,.pointer (some O),.pointer (some R),.pointer (some U)] wr fun e A=>e=.returned (.tuple #[])∧y (ys++(l.drop (a+1)).take k++if k<254 then [0] else []) k la A:=fun K M bN=>by
     have:=bk.out ys la ah K M ((l.drop (a+1)).take k) wr z.out.2.2 bN (by omega) (by omega) (by omega);rw[a9] at this;exact this
    have ak:=xX a8;clear a8 a9;by_cases hd:d=1
    ·have bp:k=0:=(by omega);subst bp;go_wp2_with fail;refine(ak.out _ _ (fun _ _ _ _ _=>.inl rfl)).mono ?_;rintro e bX ⟨rfl,E⟩;have J:=xX E;clear E;go_wp2;go_roundw;case rel=>
      refine⟨a+0+1,n-1,_,0,la,_,_,by omega,rfl,by omega,fun ys la ah w' I=>?_,L.out,J.out⟩;exact .inl (List.drop_eq_nil_of_le (by omega))
     case measure=>simp[nT];omega
    ·go_wp2_with fail;refine(ak.out _ _ (fun _ _ _ _ I=>?_)).mono ?_
     ·have D:=at_take (fY (a0.out _ _ _ _ I) 1) k;rw[List.drop_drop] at D;exact D
     rintro e bX ⟨rfl,E⟩;have J:=xX E;clear E;by_cases bn:d=k+1
     ·subst bn;go_wp2;go_roundw;case rel=>
       refine⟨a+k+1,0,_,k,la,_,_,by omega,rfl,by omega,fun ys la ah w' I=>?_,L.out,J.out⟩;exact .inl (List.drop_eq_nil_of_le (by omega))
      case measure=>simp[nT];omega
     ·go_wp2;go_roundw;case rel=>
       refine⟨a+k+1,n-(k+1),_,k,la,_,_,by omega,rfl,by omega,fun ys la ah w' I=>?_,L.out,J.out⟩;have D:=fY (a0.out _ _ _ _ I) (k+1);rw[List.drop_drop] at D;exact D
      case measure=>simp[nT];omega
end
section
open Go.RowKit
structure UnI(w:World)(g:Nat)(ys:L8)(la ah:Nat)(w':World):Prop where
 below:Below w.1.size w w'
 base:w.1.size<=g
 var:∃s cap,Var w' w.1.size g s cap ys
 last:w'.1[g+2]?=some (.cells #[.int .i64 la] 3 (0,0))
 ahead:w'.1[g+1]?=some (.cells #[.int .i64 ah] 3 (0,0))
theorem cX{o:Obj}(h:W.1[b]?=some o)(z:W.grownBy W' (some s))(A:b≠s):W'.1[b]?=some o :=
 (z.block b (sd h) (fun y=>A (Option.some.inj y))).trans h
theorem mQ{cap:Nat}(hb:Below w.1.size w W)(E:w.1.size<=g)(z:Var W w.1.size g s cap ys)(I:W.1[g+2]?=some (.cells #[.int .i64 la] 3 (0,0)))(D:W.1[g+1]?=some (.cells #[.int .i64 ah] 3 (0,0)))(L:bA W' w.1.size s' cap' zs)(y:W.grownBy W' (some s)):
  UnI w g zs la ah (W'.setCell ⟨g,0,none⟩ (.slice (some ⟨s',0,none⟩) zs.length cap')):=by
 have K:=cX I y (fun A=>eQ z.mine I (by decide) A.symm);have J:=cX D y (fun A=>eQ z.mine D (by decide) A.symm);refine⟨(gu hb z.mine.base.1 y).setCell (p:=⟨g,0,none⟩) E _,E,⟨s',cap',eP (z.still y) L⟩,cX K (bC W' g _) (by omega),cX J (bC W' g _) (by omega)⟩
theorem oK(h:UnI w g ys la ah W)(n:Nat):
  UnI w g ys n la ((W.setCell ⟨g+1,0,none⟩ (.int .i64 la)).setCell ⟨g+2,0,none⟩ (.int .i64 n)):=by
 obtain⟨hb,J,⟨s,cap,y⟩,K,z⟩:=h;have D:=dm y.mine (bC W (g+1) (.int .i64 la)) (eQ y.mine z (by decide));have I:=cX y.box (bC W (g+1) (.int .i64 la)) (by omega);have A:=cX K (bC W (g+1) (.int .i64 la)) (by omega);have E:=one_set z (.int .i64 la);refine⟨(hb.setCell (p:=⟨g+1,0,none⟩) (by show w.1.size<=g+1;omega) _).setCell (p:=⟨g+2,0,none⟩) (by show w.1.size<=g+2;omega) _,J,⟨s,cap,?_,?_⟩,one_set A _,cX E (bC _ (g+2) _) (by omega)⟩
 ·exact cX I (bC _ (g+2) _) (by omega)
 ·exact dm D (bC _ (g+2) _) (eQ D A (by decide))
theorem tT(w:World)(g:Nat)(ys t:L8)(la ah:Nat)(q:OA)(k:Nat)(w':World)(h:UnI w g ys la ah w')(a2:∀ys la ah M,UnI w g ys la ah M->At M q t)(bT:t.length<=254)(hb:ys.length+t.length+1<=140737488355328):
    Calls Tryz.prog 137 #[.slice q t.length k,.pointer (some ⟨g,0,none⟩),.pointer (some ⟨g+2,0,none⟩),.pointer (some ⟨g+1,0,none⟩)] w' fun e M=>e=.returned (.tuple #[])∧UnI w g (ys++t++if t.length<254 then [0] else []) t.length la M:=by
  have a3:=xX h;obtain⟨O,R,⟨s,cap,U⟩,a0,ak⟩:=h;have bp:=one_cell U.box;have J:=xX (a2 _ _ _ _ a3.out);have y:=xX U;have V:=xX O;have Y:=xX a0;have X:=xX ak;have aj:=O.size;clear U O a0 ak a2;by_cases Z:t.length<254
  · have bn:(t.length:Int)<254:=(by omega);rw[if_pos Z];go_enter Tryz.func137,Tryz.ntmps137
    go_wp2_with (first|(at_builtin;refine iG y.out.mine J.out (by omega) aj rfl rfl rfl rfl rfl ?_;intro zs bj a6 a5 K E A;have bb:=bW (y.out.still A);have a7:=one_cell (y.out.still A);have z:=xX (mQ V.out R y.out Y.out X.out E A);have D:=xX (eP (y.out.still A) E);have bq:=one_cell D.out.box;have bO:zs.length<=ys.length+t.length:=(by rw[K.out];simp);clear E A y J)|(at_builtin;refine lA D.out.mine 0 (by omega) z.out.below.size rfl rfl rfl rfl rfl rfl (by simp[World.setCell]) ?_;intro us bX bl bk a4 a1 L;have bN:=bW (D.out.still L);have bs:=one_cell (D.out.still L);have I:=xX (mQ z.out.below R D.out z.out.last z.out.ahead a1 L);have a9:=one_cell I.out.last;have a8:=one_cell I.out.ahead;have bd:=bW I.out.last;have bc:=bW I.out.ahead;clear a1 L D))
    go_end0;have be:ys++t++[0]=us:=(by rw[a4.out,K.out]);rw[be];exact⟨rfl,oK I.out _⟩
  · rw[if_neg Z,List.append_nil];go_enter Tryz.func137,Tryz.ntmps137
    go_wp2_with (at_builtin;refine iG y.out.mine J.out (by omega) aj rfl rfl rfl rfl rfl ?_;intro zs bj a6 a5 K E A;have bb:=bW (y.out.still A);have a7:=one_cell (y.out.still A);have z:=xX (mQ V.out R y.out Y.out X.out E A);have a9:=one_cell z.out.last;have a8:=one_cell z.out.ahead;have bd:=bW z.out.last;have bc:=bW z.out.ahead;clear E A y J)
    go_end0;rw[<-K.out];exact⟨rfl,oK z.out _⟩
theorem jc(w:World)(o:Obj){k:Nat}(h:k<w.1.size):(w.alloc o).1[k]?=w.1[k]?:=by
 show(w.1.push o)[k]?=_;rw[Array.getElem?_push,if_neg (by omega)]
theorem kg(h:eW w g o (xs++zs)):eW w g o xs :=
 ⟨h.1,fun j y=>by
  have:=h.2.1 j (by rw[List.length_append];omega)
  rwa [List.getElem_append_left y] at this,fun j y=>h.2.2 j (by rw[List.length_append];omega)⟩
def gG(w:World)(l:L8)(e:Ending)(w':World):Prop :=
 ∃q cap,e=.returned (.tuple #[.slice q (Cob.un l).2.length cap,.int .i64 ((Cob.un l).1:Nat)])∧At w' q (Cob.un l).2∧(Cob.un l).2.length<=cap∧((Cob.un l).2≠[]->∃g o,q=some ⟨g,o,none⟩∧w.1.size<=g∧eW w' g o (Cob.un l).2)∧Below w.1.size w w'
theorem dR{c:Nat}(h:Cob.un l=(c,[]))(hb:Below w.1.size w w'):gG w l (.returned (.tuple #[.slice none 0 0,.int .i64 c])) w':=by
 unfold gG;rw[h];exact⟨none,0,rfl,.inl rfl,xZ,fun y=>absurd rfl y,hb⟩
theorem de{cap:Nat}(h:Cob.un l=(0,xs))(y:eW w' s 0 xs)(A:w.1.size<=s)(z:xs.length<=cap)(hb:Below w.1.size w w'):gG w l (.returned (.tuple #[.slice (some ⟨s,0,none⟩) xs.length cap,.int .i64 0])) w':=by
 unfold gG;rw[h];exact⟨_,cap,rfl,y.at,z,fun _=>⟨s,0,rfl,A,y⟩,hb⟩
theorem mf(h:gI l l.length):Cob.Nz l:=by
 intro c z;obtain⟨j,y,rfl⟩:=List.getElem_of_mem z;exact h.2.1 j y y
theorem rj(p:OA)(c:Nat)(l:L8)(w:World)(be:l.length<=140737488351232)(b2:l.length<=c)(h:At w p l):
    Calls Tryz.prog 106 #[.slice p l.length c] w fun e w'=>gG w l e w':=by
  obtain⟨cc,b0,b8,b9,cb⟩:=info_parts fT;have a3:=xX h;have a4:=xX (fV p c l be w h);clear h;go_enter Tryz.func106,Tryz.ntmps106;go_wp2_with fail;refine a4.out.mono ?_;rintro e w1 ⟨k,rfl,Z,rfl⟩;have co:=Z.1;have X:=xX Z;clear Z a4;by_cases L:k<l.length
  · have cn:(k:Int)<(l.length:Int):=(by omega);have a8:Cob.un l=(40,[]):=Cob.un_zero (by rw[<-X.out.2.2 L];exact List.getElem_mem L);have bp:=xX a8;clear a8;go_wp2;go_ret2;exact dR bp.out xY
  · have b1:k=l.length:=(by omega);subst b1;have a7:=xX (mf X.out);clear X L
    go_wp2_with (first|(at_make;refine wpList_make_own _ rfl _ _ 22 rfl w1.1.size 5 cc (.int .u8 0) 1 Tryz.underlying22 b0 b8 b9 .i64 .i64 l.length l.length rfl rfl rfl (by rw[cb];omega) (by unfold maxLen;omega) xZ ?_;intro y bk bd;have bs:Hid (bA y w1.1.size w1.1.size l.length []):=bk;have a5:=xX bd;clear bk bd)|fail)
    have a2:w1.1.size<=y.1.size:=a5.out.size;have bb:Below w1.1.size w1 y:=xY.grown a5.out xZ (fun k L=>by cases L)
    have a6:Hid (Calls Tryz.prog 136 #[.slice p l.length c,.func (.func 137) #[] #[.pointer (some ⟨y.1.size,0,none⟩),.pointer (some ⟨y.1.size+2,0,none⟩),.pointer (some ⟨y.1.size+1,0,none⟩)]]
        (((y.alloc (.cells #[.slice (some ⟨w1.1.size,0,none⟩) 0 l.length] 22)).alloc (.cells #[.int .i64 0] 3)).alloc (.cells #[.int .i64 0] 3))
        fun e w'=>∃ys la ah,UnI w1 y.1.size ys la ah w'∧((e=.returned (.int .i64 30)∧Cob.un l=(30,[]))∨(e=.returned (.int .i64 0)∧l≠[]∧Cob.Rd l l.length ys la ah))):=by
      have bl:UnI w1 y.1.size [] 0 0 (((y.alloc (.cells #[.slice (some ⟨w1.1.size,0,none⟩) 0 l.length] 22)).alloc (.cells #[.int .i64 0] 3)).alloc (.cells #[.int .i64 0] 3)):=by
        refine⟨((bb.alloc (by omega) _).alloc (by simp;omega) _).alloc (by simp;omega) _,a2,⟨w1.1.size,l.length,?_,?_⟩,?_,?_⟩
        · rw[jc _ _ (by simp;omega),jc _ _ (by simp)];exact bB y _
        · exact World.ownsRow.alloc (World.ownsRow.alloc (World.ownsRow.alloc bs.out _) _) _
        · have:=bB ((y.alloc (.cells #[.slice (some ⟨w1.1.size,0,none⟩) 0 l.length] 22)).alloc (.cells #[.int .i64 0] 3)) (.cells #[.int .i64 0] 3);simpa using this
        · rw[jc _ _ (by simp)];have:=bB (y.alloc (.cells #[.slice (some ⟨w1.1.size,0,none⟩) 0 l.length] 22)) (.cells #[.int .i64 0] 3);simpa using this
      show Calls _ _ _ _ _;by_cases J:l=[]
      · subst J;refine(ii p c _ _).mono ?_;rintro e w' ⟨rfl,rfl⟩;exact⟨[],0,0,bl,.inl ⟨rfl,Cob.un_none⟩⟩
      · obtain⟨b,o,rfl,-,-⟩:=aL a3.out (List.length_pos_iff.2 J)
        refine(jA 137 ⟨y.1.size,0,none⟩ ⟨y.1.size+2,0,none⟩ ⟨y.1.size+1,0,none⟩ (UnI w1 y.1.size) b o c l _ be b2 J a7.out (fun args w=>eG Tryz.func137 (by kernel_rfl) rfl args w)
          (fun ys la ah w' A=>a3.out.on A.below) bl (fun ys la ah q k t w' A b3 b4 hb _=>tT w1 y.1.size ys t la ah q k w' A b3 b4 hb)).mono ?_
        rintro e w' ⟨ys,la,ah,A,R | R⟩
        · exact⟨ys,la,ah,A,.inl R⟩
        · exact⟨ys,la,ah,A,.inr ⟨R.1,J,R.2⟩⟩
    refine a6.out.mono ?_;rintro e bn ⟨ys,la,ah,A,bX⟩;have K:=xX A;clear a6 bb;rcases bX with ⟨rfl,a9⟩ | ⟨rfl,J,a1⟩
    · have bq:=xX a9;clear a9 A;go_wp2;go_ret2;exact dR bq.out K.out.below
    · obtain⟨s,cap,V⟩:=A.var;have z:=xX V;have cj:=one_cell V.box;have ck:=bW V.box;have U:=one_cell A.last;have ci:=one_cell A.ahead;obtain⟨xs,D,E⟩:=Cob.rd_end a7.out J a1;have cp:=(Cob.rd_le a1).1;clear V A a1 J;by_cases bc:ah=254
      · have bO:((ah:Int)==254)=true:=(by rw[beq_iff_eq];omega);by_cases bj:la=0
        · have bT:((la:Int)==0)=true:=(by rw[beq_iff_eq];omega);rw[if_pos ⟨bc,bj⟩] at E;have I:=xX E;clear E D;go_wp2;go_ret2;exact dR I.out K.out.below
        · have bT:((la:Int)==0)=false:=(by rw[beq_eq_false_iff_ne];omega);rw[if_neg (fun aj=>bj aj.2)] at E;have I:=xX E;clear E;by_cases M:la<254
          · have ak:(la:Int)<254:=(by omega);rw[if_pos M] at D;have O:ys.length=xs.length+1:=(by rw[D];simp);have U:xs.length<=cap:=(by have:=z.out.mine.base.2.2;omega);have Y:=xX D;have bN:=xX O;have b7:1<=ys.length:=(by omega);have b5:xs.length<=140737488351233:=(by omega);have b6:(ys.length:Int)-1=(xs.length:Int):=(by omega);clear D O;go_wp2;go_ret2;refine de I.out (kg (zs:=[0]) ?_) z.out.mine.base.1 U (K.out.below.setCell (p:=⟨y.1.size,0,none⟩) (by show w1.1.size<=y.1.size;exact a2) _);have a0:=dm z.out.mine (bC bn y.1.size (.slice (some ⟨s,0,none⟩) xs.length cap)) z.out.ne;rw[<-Y.out];exact a0.free
          · have ak:¬(la:Int)<254:=(by omega);rw[if_neg M,List.append_nil] at D;subst D;go_wp2;go_ret2;exact de I.out z.out.mine.free z.out.mine.base.1 z.out.mine.base.2.2 K.out.below
      · have bO:((ah:Int)==254)=false:=(by rw[beq_eq_false_iff_ne];omega);rw[if_neg (fun aj=>bc aj.1)] at E;have I:=xX E;clear E;by_cases M:la<254
        · have ak:(la:Int)<254:=(by omega);rw[if_pos M] at D;have O:ys.length=xs.length+1:=(by rw[D];simp);have U:xs.length<=cap:=(by have:=z.out.mine.base.2.2;omega);have Y:=xX D;have bN:=xX O;have b7:1<=ys.length:=(by omega);have b5:xs.length<=140737488351233:=(by omega);have b6:(ys.length:Int)-1=(xs.length:Int):=(by omega);clear D O;go_wp2;go_ret2;refine de I.out (kg (zs:=[0]) ?_) z.out.mine.base.1 U (K.out.below.setCell (p:=⟨y.1.size,0,none⟩) (by show w1.1.size<=y.1.size;exact a2) _);have a0:=dm z.out.mine (bC bn y.1.size (.slice (some ⟨s,0,none⟩) xs.length cap)) z.out.ne;rw[<-Y.out];exact a0.free
        · have ak:¬(la:Int)<254:=(by omega);rw[if_neg M,List.append_nil] at D;subst D;go_wp2;go_ret2;exact de I.out z.out.mine.free z.out.mine.base.1 z.out.mine.base.2.2 K.out.below
end
section
open Go.RowKit
theorem oH(a b:Nat)(y:a<4294967296)(hb:b<4294967296):bits .xor .u32 (a:Int) (b:Int)=((a ^^^ b:Nat):Int):=u32_xor_nat a b y hb
theorem gR(a:Nat)(y:a<4294967296):bits .xor .u32 IntKind.u32.max (a:Int)=((a ^^^ Crc.full:Nat):Int):=by
 rw[Nat.xor_comm];exact u32_xor_nat 4294967295 a (by omega) y
theorem iS(s:Nat)(Y:s<4294967296)(b o c:Nat)(l:L8)(bk:l.length<=140737488351232)(w:World)(V:bR w b o l):
  Calls Tryz.prog 112 #[.int .u32 s,.slice (some ⟨b,o,none⟩) l.length c] w fun e w'=>e=.returned (.int .u32 (Crc.update s l:Nat))∧w'=w:=by
 have a4:=gR s Y;have Z:=xX V;clear V;obtain⟨r0,J⟩:∃r0,r0=s ^^^ Crc.full:=⟨_,rfl⟩;rw[<-J] at a4;have a8:r0<4294967296:=by rw[J];exact Nat.xor_lt_two_pow (n:=32) Y (by decide)
 have ak:Hid (Crc.update s l=Crc.take r0 l ^^^ Crc.full):=by rw[J];exact rfl
 clear J;go_enter Tryz.func112,Tryz.ntmps112;go_wp2;go_loop [5,6] (fun U O=>∃(k r:Nat),k<=l.length∧O=.int .i64 k∧U=.int .u32 r∧r<4294967296∧Hid (r=Crc.take r0 (l.take k))) (fun _ O=>l.length-(intOf O).toNat);case atStart=>exact⟨0,r0,by omega,rfl,rfl,a8,rfl⟩
 case round=>
  obtain⟨k,r,bj,rfl,rfl,M,L⟩:=hrel;by_cases X:k<l.length
  ·have be:=Z.out k X;have bd:l[k].toNat<256:=l[k].toNat_lt;have a9:=oH r l[k].toNat M (by omega);obtain⟨y,I⟩:∃y,y=r ^^^ l[k].toNat:=⟨_,rfl⟩;rw[<-I] at a9;have a7:y<4294967296:=(by rw[I];exact Nat.xor_lt_two_pow (n:=32) M (by omega));have aj:Hid (Crc.steps 8 y=Crc.take r0 (l.take (k+1))):=by
    show Crc.steps 8 y=_;rw[List.take_succ_eq_append_getElem X,Crc.take_snoc,<-L.out,I];rfl
   clear I L;go_wp2;go_loop [5,7] (fun U R=>∃(j q:Nat),j<=8∧R=.int .i64 j∧U=.int .u32 q∧q<4294967296∧Hid (q=Crc.steps j y)) (fun _ R=>8-(intOf R).toNat);case atStart=>exact⟨0,y,by omega,rfl,rfl,a7,rfl⟩
   case round=>
    obtain⟨j,q,a0,rfl,rfl,a6,K⟩:=hrel;by_cases a1:j<8
    ·by_cases E:q % 2=1
     ·have hb:((q:Int) % 2==1)=true:=(by rw[beq_iff_eq];omega);have bb:bits .xor .u32 ((q:Int) / 2) 3988292384=((q / 2 ^^^ Crc.poly:Nat):Int):=by
       have:=oH (q / 2) 3988292384 (by omega) (by omega);simpa[Crc.poly] using this
      have A:Hid (q / 2 ^^^ Crc.poly=Crc.steps (j+1) y∧q / 2 ^^^ Crc.poly<4294967296):=by
       refine⟨?_,Nat.xor_lt_two_pow (n:=32) (by omega) Crc.poly_lt⟩;rw[Crc.steps_succ,<-K.out,Crc.step,if_pos E]
      generalize q / 2 ^^^ Crc.poly=bc at bb A;clear E;go_wp2;go_round;case rel=>exact⟨j+1,bc,by omega,by go_num,rfl,A.out.2,A.out.1⟩
      case measure=>simp[intOf];omega
     ·have hb:((q:Int) % 2==1)=false:=(by rw[beq_eq_false_iff_ne];omega);have A:Hid (q / 2=Crc.steps (j+1) y):=by
       show q / 2=_;rw[Crc.steps_succ,<-K.out,Crc.step,if_neg E]
      clear E;go_wp2;go_round;case rel=>exact⟨j+1,q / 2,by omega,by go_num,by go_num,by omega,A⟩
      case measure=>simp[intOf];omega
    ·have a2:j=8:=(by omega);subst a2;have D:Hid (q=Crc.take r0 (l.take (k+1))):=by
      show q=_;rw[K.out,aj.out]
     clear a1 a0;go_wp2;go_round;case rel=>exact⟨k+1,q,by omega,by go_num,rfl,a6,D⟩
     case measure=>simp[intOf];omega
  ·have a3:k=l.length:=(by omega);subst a3;have a5:=gR r M;have D:Hid ((r ^^^ Crc.full:Nat)=Crc.update s l):=by
    show _=_;rw[ak.out,L.out,List.take_length]
   generalize r ^^^ Crc.full=z at a5 D;go_wp2;go_ret;exact⟨by rw[<-D.out];rfl,rfl⟩
theorem iT(s:Nat)(A:s<4294967296)(p:OA)(c:Nat)(w:World):
  Calls Tryz.prog 112 #[.int .u32 s,.slice p 0 c] w fun e w'=>e=.returned (.int .u32 (s:Nat))∧w'=w:=by
 have D:=gR s A;obtain⟨y,z⟩:∃y,y=s ^^^ Crc.full:=⟨_,rfl⟩;rw[<-z] at D;have I:y<4294967296:=by rw[z];exact Nat.xor_lt_two_pow (n:=32) A (by decide)
 have E:=gR y I;have e:y ^^^ Crc.full=s:=by rw[z];exact Crc.flip_flip s
 rw[e] at E;clear e z;go_enter Tryz.func112,Tryz.ntmps112;go_wp2;go_loop [5,6] (fun K J=>J=.int .i64 0∧K=.int .u32 y) (fun _ _=>0);case atStart=>exact⟨rfl,rfl⟩
 case round=>
  obtain⟨rfl,rfl⟩:=hrel;go_wp2;go_ret;exact⟨rfl,rfl⟩
theorem jw(s:Nat)(y:s<4294967296)(p:OA)(c:Nat)(l:L8)(A:l.length<=140737488351232)(w:World)(h:At w p l):
  Calls Tryz.prog 112 #[.int .u32 s,.slice p l.length c] w fun e w'=>e=.returned (.int .u32 (Crc.update s l:Nat))∧w'=w:=by
 rcases h with rfl | ⟨b,o,rfl,_,z⟩
 ·rw[Crc.update_nil];exact iT s y p c w
 ·exact iS s y b o c l A w z
theorem iU(p:OA)(c:Nat)(l:L8)(A:l.length<=140737488351232)(w:World)(h:At w p l):
  Calls Tryz.prog 85 #[.slice p l.length c] w fun e w'=>e=.returned (.int .u32 (Crc.sum l:Nat))∧w'=w:=by
 have z:=xX (jw 0 (by omega) p c l A w h);have y:Hid (Crc.update 0 l=Crc.sum l):=rfl;clear h;go_enter Tryz.func85,Tryz.ntmps85;go_wp2_with fail;refine z.out.mono ?_;rintro e w' ⟨rfl,rfl⟩;go_wp2;go_ret;exact⟨by rw[<-y.out];rfl,rfl⟩
end
section
open Go.RowKit
def Hv(w:World):Prop:=∀n (_:n<16),w.cell? ⟨2,n,none⟩=some (.int .u32 (Crc.steps 4 n:Nat))
theorem xF(r:Nat)(y:r<4294967296):bits .and .u32 (r:Int) 15=((r % 16:Nat):Int):=by
 have:=u32_and_nat r 15 y (by omega);rw[show(15:Nat)=2 ^ 4-1 from rfl,Nat.and_two_pow_sub_one_eq_mod] at this;exact this
theorem fb(r:Nat)(I:r<4294967296)(w:World)(A:Hv w):
  Calls Tryz.prog 167 #[.int .u32 r] w fun e w'=>e=.returned (.int .u32 (Crc.steps 4 r:Nat))∧w'=w:=by
 have J:=xF r I;have E:=A (r % 16) (Nat.mod_lt _ (by omega));have K:r % 16<16:=Nat.mod_lt _ (by omega);have z:Crc.steps 4 (r % 16)<4294967296:=Crc.steps_lt 4 (by omega);have D:bits .xor .u32 ((r:Int) / 16) ((Crc.steps 4 (r % 16):Nat):Int)=((r / 16 ^^^ Crc.steps 4 (r % 16):Nat):Int):=oH (r / 16) _ (by omega) z;have y:Hid (r / 16 ^^^ Crc.steps 4 (r % 16)=Crc.steps 4 r):=(Crc.nibble r).symm;generalize Crc.steps 4 (r % 16)=v at E z D y;generalize r / 16 ^^^ v=L at D y;clear A;go_enter Tryz.func167,Tryz.ntmps167;go_wp2;go_ret;exact⟨by rw[<-y.out];rfl,rfl⟩
theorem lE(s:Nat)(aj:s<4294967296)(b o c:Nat)(l:L8)(bd:l.length<=140737488351232)(w:World)(ak:Hv w)(V:bR w b o l):
  Calls Tryz.prog 135 #[.int .u32 s,.slice (some ⟨b,o,none⟩) l.length c] w fun e w'=>e=.returned (.int .u32 (Crc.update s l:Nat))∧w'=w:=by
 have a3:=gR s aj;have a0:=xX V;have U:=xX ak;clear V ak;obtain⟨r0,D⟩:∃r0,r0=s ^^^ Crc.full:=⟨_,rfl⟩;rw[<-D] at a3;have a5:r0<4294967296:=by rw[D];exact Nat.xor_lt_two_pow (n:=32) aj (by decide)
 have a1:Hid (Crc.update s l=Crc.take r0 l ^^^ Crc.full):=by rw[D];exact rfl
 clear D;go_enter Tryz.func135,Tryz.ntmps135;go_wp2;go_loop [5,12] (fun a8 L=>∃(k r:Nat),k<=l.length∧L=.int .i64 k∧a8=.int .u32 r∧r<4294967296∧Hid (r=Crc.take r0 (l.take k))) (fun _ L=>l.length-(intOf L).toNat);case atStart=>exact⟨0,r0,by omega,rfl,rfl,a5,rfl⟩
 case round=>
  obtain⟨k,r,bc,rfl,rfl,K,I⟩:=hrel;by_cases X:k<l.length
  ·have bb:=a0.out k X;have a9:l[k].toNat<256:=l[k].toNat_lt;have a6:=oH r l[k].toNat K (by omega);obtain⟨y,A⟩:∃y,y=r ^^^ l[k].toNat:=⟨_,rfl⟩;rw[<-A] at a6;have Y:y<4294967296:=(by rw[A];exact Nat.xor_lt_two_pow (n:=32) K (by omega));have R:Hid (Crc.steps 4 (Crc.steps 4 y)=Crc.take r0 (l.take (k+1))):=by
    show Crc.steps 4 (Crc.steps 4 y)=_;rw[<-Crc.byte_nibbles,List.take_succ_eq_append_getElem X,Crc.take_snoc,<-I.out,A];rfl
   have J:Crc.steps 4 y<4294967296:=Crc.steps_lt 4 Y;have Z:Crc.steps 4 (Crc.steps 4 y)<4294967296:=Crc.steps_lt 4 J;have M:=xX (fb y Y w U.out);have E:=xX (fb _ J w U.out);generalize Crc.steps 4 (Crc.steps 4 y)=a7 at R Z E;generalize Crc.steps 4 y=be at J M E;clear A I;go_wp2_with fail;refine M.out.mono ?_;rintro e w' ⟨rfl,rfl⟩;go_wp2_with fail;refine E.out.mono ?_;rintro e w' ⟨rfl,rfl⟩;go_wp2;go_round;case rel=>exact⟨k+1,a7,by omega,by go_num,rfl,Z,R⟩
   case measure=>simp[intOf];omega
  ·have a2:k=l.length:=(by omega);subst a2;have a4:=gR r K;have O:Hid ((r ^^^ Crc.full:Nat)=Crc.update s l):=by
    show _=_;rw[a1.out,I.out,List.take_length]
   generalize r ^^^ Crc.full=z at a4 O;go_wp2;go_ret;exact⟨by rw[<-O.out];rfl,rfl⟩
theorem lF(s:Nat)(A:s<4294967296)(p:OA)(c:Nat)(w:World):
  Calls Tryz.prog 135 #[.int .u32 s,.slice p 0 c] w fun e w'=>e=.returned (.int .u32 (s:Nat))∧w'=w:=by
 have D:=gR s A;obtain⟨y,z⟩:∃y,y=s ^^^ Crc.full:=⟨_,rfl⟩;rw[<-z] at D;have I:y<4294967296:=by rw[z];exact Nat.xor_lt_two_pow (n:=32) A (by decide)
 have E:=gR y I;have e:y ^^^ Crc.full=s:=by rw[z];exact Crc.flip_flip s
 rw[e] at E;clear e z;go_enter Tryz.func135,Tryz.ntmps135;go_wp2;go_loop [5,12] (fun K J=>J=.int .i64 0∧K=.int .u32 y) (fun _ _=>0);case atStart=>exact⟨rfl,rfl⟩
 case round=>
  obtain⟨rfl,rfl⟩:=hrel;go_wp2;go_ret;exact⟨rfl,rfl⟩
theorem mP(s:Nat)(y:s<4294967296)(p:OA)(c:Nat)(l:L8)(A:l.length<=140737488351232)(w:World)(D:Hv w)(h:At w p l):
  Calls Tryz.prog 135 #[.int .u32 s,.slice p l.length c] w fun e w'=>e=.returned (.int .u32 (Crc.update s l:Nat))∧w'=w:=by
 rcases h with rfl | ⟨b,o,rfl,_,z⟩
 ·rw[Crc.update_nil];exact lF s y p c w
 ·exact lE s y b o c l A w D z
theorem tW(p:OA)(c:Nat)(l:L8)(D:l.length<=140737488351232)(w:World)(y:Hv w)(h:At w p l):
  Calls Tryz.prog 102 #[.slice p l.length c] w fun e w'=>e=.returned (.int .u32 (Crc.sum l:Nat))∧w'=w:=by
 have A:=xX (mP 0 (by omega) p c l D w y h);have z:Hid (Crc.update 0 l=Crc.sum l):=rfl;clear h y;go_enter Tryz.func102,Tryz.ntmps102;go_wp2_with fail;refine A.out.mono ?_;rintro e w' ⟨rfl,rfl⟩;go_wp2;go_ret;exact⟨by rw[<-z.out];rfl,rfl⟩
end
end Go.Proofs.YtdkammppnkhhoaaGreatDoor
