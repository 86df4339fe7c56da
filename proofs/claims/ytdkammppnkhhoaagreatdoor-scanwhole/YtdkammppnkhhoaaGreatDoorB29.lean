import Derived.Test.YtdkammppnkhhoaaGreatDoorB01
import Derived.Deep.RegionLaw
set_option maxHeartbeats 400000
namespace Go.Proofs.YtdkammppnkhhoaaGreatDoor
variable{B g g2:Nat}{W w w':World}{l:L8}{v:Value}
namespace Dv
structure St where
 b:L8
 most:Nat
 safe:Nat
 down:Bool
 bound:Bool
 after:Nat
 keep:Nat
 told:Nat
 done:Nat
def new(quota:Nat):St:=⟨[],quota,0,false,false,0,0,0,0⟩
def may(s:St):Bool:=!s.bound||decide (0<s.after)
def did(s:St):St:={ s with after:=if s.bound then s.after-1 else s.after,done:=s.done+1 }
def fails(s:St):St:={ s with b:=if s.keep<s.b.length-s.safe then s.b.take (s.safe+s.keep) else s.b,bound:=false,down:=true }
def lay:St->L8->Bool×St
 |s,[]=>(false,s)
 |s,c::r=>if may s then lay { did s with b:=s.b++[c] } r else (true,fails s)
def write(s:St)(l:L8):Nat×St :=
 if s.down then (50,s) else if l≠[]∧s.most<s.b.length+l.length then (52,s) else
  let r:=lay s l
  (if r.1 then 51 else 0,r.2)
def cut(s:St)(n:Int):Nat×St :=
 if s.down then (50,s) else if n<0∨(s.b.length:Int)<n then (7,s) else if may s then (0,{ did s with b:=s.b.take n.toNat,safe:=if n.toNat<s.safe then n.toNat else s.safe }) else (51,fails s)
def read(s:St)(a n:Int):L8×Nat×St :=
 if a<0∨(s.b.length:Int)<a∨n<0 then ([],7,s) else
  let l:=(s.b.drop a.toNat).take n.toNat
  (l,0,{ s with told:=s.told+l.length })
def fail(s:St)(after keep:Int):Nat×St:=if s.down then (50,s) else if after<0∨keep<0 then (1,s) else (0,{ s with bound:=true,after:=after.toNat,keep:=keep.toNat })
def tail(s:St)(l:L8):Nat×St:=if 2097152<s.b.length+l.length then (2,s) else (0,{ s with b:=s.b++l,safe:=(s.b++l).length })
def Sound(s:St):Prop:=s.safe<=s.b.length
def Keeps(s t:St)(all:L8):Prop:=s.b.take s.safe <+: t.b∧t.b <+: all∧Sound t∧t.most=s.most
structure Held(s t:St)(e:Nat)(all:L8):Prop where
 keeps:Keeps s t all
 room:s.b.length<=s.most->t.b.length<=t.most
 power:(e=51)↔(s.down=false∧t.down=true)
 space:e=52->t.b=s.b
theorem lay_free:∀(l:L8) (s:St),s.bound=false->lay s l=(false,{ s with b:=s.b++l,done:=s.done+l.length })
 | [],s,_=>by simp[lay]
 |c::r,s,h=>by
  rw[lay,if_pos (by simp[may,h]),lay_free r _ (by simp[did,h])];simp only[did,h,Bool.false_eq_true,if_false,List.append_assoc,List.cons_append,List.nil_append,List.length_cons];congr 2;omega
end Dv
section
open Go.RowKit
def cZ(v:Value)(s:Dv.St):AV:=#[v,.int .i64 s.most,.int .i64 s.safe,.bool s.down,.bool s.bound,.int .i64 s.after,.int .i64 s.keep,.int .i64 s.told,.int .i64 s.done]
structure aZ(w:World)(B g:Nat)(v:Value)(s:Dv.St):Prop where
 lies:w.1[g]?=some (.cells (cZ v s) 84)
 has:Has w B v s.b
 base:B<=g
 apart:v.ownBlock≠some g
theorem aZ.lt{s:Dv.St}(h:aZ w B g v s):g<w.1.size:=(Array.getElem?_eq_some_iff.1 h.lies).1
theorem aZ.cell{s:Dv.St}(h:aZ w B g v s)(i:Nat):w.cell? ⟨g,i,none⟩=(cZ v s)[i]?:=by
 unfold World.cell?;rw[h.lies];rfl
theorem aZ.thawed{s:Dv.St}(h:aZ w B g v s)(i:Nat):w.frozen? ⟨g,i,none⟩=false:=by
 simp[World.frozen?,h.lies]
theorem aZ.put{s s':Dv.St}(h:aZ w B g v s)(i:Nat)(u:Value)(z:cZ v s'=(cZ v s).setIfInBounds i u)(hb:s'.b=s.b):aZ (w.setCell ⟨g,i,none⟩ u) B g v s':=by
 have o:Aside (·=g) w (w.setCell ⟨g,i,none⟩ u):=(Aside.refl (·=g) w).setCell (p:=⟨g,i,none⟩) (.inl rfl) u;refine⟨?_,?_,h.base,h.apart⟩
 ·simp only[World.setCell,Array.getElem?_modify,h.lies,if_true,Option.map_some];rw[if_neg (by simp),z]
 ·rw[hb];exact h.has.aside o (fun k A y=>h.apart (by rw[A,y]))
theorem aZ.aside{s:Dv.St}{F:Nat->Prop}(h:aZ w B g v s)(o:Aside F w w')(y:¬F g)(z:∀k,v.ownBlock=some k->¬F k):aZ w' B g v s :=
 ⟨by rw[o.block g h.lt y];exact h.lies,h.has.aside o z,h.base,h.apart⟩
section
variable {B g:Nat} {v:Value} {s:Dv.St} {w:World}
theorem oO(h:aZ w B g v s):Calls Tryz.prog 60 #[.pointer (some ⟨g,0,none⟩)] w fun e w'=>e=.returned (.int .i64 (s.b.length:Nat))∧w'=w:=by
 have c0:w.cell? ⟨g,0,none⟩=some v:=h.cell 0;obtain⟨p,cap,o,-,-⟩:=h.has.at;subst o;clear h;go_enter Tryz.func60,Tryz.ntmps60;go_wp2;go_ret;exact⟨rfl,rfl⟩
theorem rE(h:aZ w B g v s):Calls Tryz.prog 29 #[.pointer (some ⟨g,0,none⟩)] w fun e w'=>e=.returned (.bool (!s.down))∧w'=w:=by
 have c0:w.cell? ⟨g,3,none⟩=some (.bool s.down):=h.cell 3;clear h;go_enter Tryz.func29,Tryz.ntmps29;go_wp2;go_ret;exact⟨rfl,rfl⟩
theorem nH(h:aZ w B g v s):Calls Tryz.prog 10 #[.pointer (some ⟨g,0,none⟩)] w fun e w'=>e=.returned (.int .i64 (s.told:Nat))∧w'=w:=by
 have c0:w.cell? ⟨g,7,none⟩=some (.int .i64 s.told):=h.cell 7;clear h;go_enter Tryz.func10,Tryz.ntmps10;go_wp2;go_ret;exact⟨rfl,rfl⟩
def tG(w:World)(B g:Nat)(v:Value)(r:Nat×Dv.St)(e:Ending)(w':World):Prop :=
 e=.returned (.int .i64 (r.1:Nat))∧∃v',aZ w' B g v' r.2∧Aside (fun k=>k=g∨v.ownBlock=some k) w w'∧(v'=v∨∀k,v'.ownBlock=some k->v.ownBlock=some k∨w.1.size<=k)
end
end
section
open Go.RowKit
theorem aZ.drewN{s:Dv.St}(h:aZ w B g v s)(n:Nat):aZ (w.drewN n) B g v s:=⟨h.lies,h.has,h.base,h.apart⟩
theorem aZ.drew{s:Dv.St}(h:aZ w B g v s):aZ w.drew B g v s:=⟨h.lies,h.has,h.base,h.apart⟩
section
variable {B g:Nat} {v:Value} {s:Dv.St} {w:World}
end
end
section
open Go.RowKit
theorem pL(q:Nat)(h:q<=1048576)(w:World):Calls Tryz.prog 25 #[.int .i64 q] w fun e w'=>e=.returned (.tuple #[.pointer (some ⟨w.1.size,0,none⟩),.int .i64 0])∧aZ w' w.1.size w.1.size (.slice none 0 0) (Dv.new q)∧Below w.1.size w w':=by
 have y:Hid (aZ (w.alloc (.cells (cZ (.slice none 0 0) (Dv.new q)) 84)) w.1.size w.1.size (.slice none 0 0) (Dv.new q)) :=
  ⟨bB w _,aI _ _,xZ,by simp[Value.ownBlock]⟩
 have o:Hid (Below w.1.size w (w.alloc (.cells (cZ (.slice none 0 0) (Dv.new q)) 84))):=xV;have z:(q:Int)<=1048576:=by omega
 go_enter Tryz.func25,Tryz.ntmps25;go_wp2;go_ret2;exact⟨rfl,y.out,o.out⟩
theorem Has.set{cap:Nat}(h:Has w B (.slice (some ⟨g,0,none⟩) l.length cap) l)(i:Nat)(c:UInt8):Has (w.setCell ⟨g,i,none⟩ (.int .u8 (c.toNat:Int))) B (.slice (some ⟨g,0,none⟩) l.length cap) (l.set i c):=by
 have y:(l.set i c).length=l.length:=List.length_set;unfold Has World.ownsRow;rw[y];refine⟨by rw[aS,y,Nat.mul_one],?_⟩;rcases h.2 with ⟨o,_⟩ | ⟨M,L,z,o,A,D,E,I,J,K⟩
 ·cases o
 ·cases o
  refine .inr ⟨g,cap,z.setIfInBounds i (.int .u8 (c.toNat:Int)),rfl,A,?_,E,I,by simpa using J,?_⟩
  ·simp only[World.setCell,Array.getElem?_modify,D,if_true,Option.map_some];rw[if_neg (by simp)]
  ·rw[Array.toList_setIfInBounds,List.take_set,K];simp[cellsOf,List.map_set]
section
variable {B g:Nat} {v:Value} {s:Dv.St} {w:World}
end
end
section
open Go.RowKit
theorem gX{row:Option Nat}(o:w.grownBy w' row):Aside (fun k=>row=some k) w w' :=
 ⟨o.os,o.tape,o.output,o.size,fun k z y=>o.block k z (fun e=>y e.symm)⟩
theorem py{xs:L8}(X:Has w B v xs)(c:UInt8)(a0:xs.length+1<=140737488355328)(E:B<=w.1.size)(ad:Nat)(K:w.cell? ⟨ad,0,none⟩=some (.int .u8 (c.toNat:Int))){ops:Array Oper}{o:Oper}{a:Act}{z:Act->World->Prop}{Q:Exit->Act->World->Prop}{D:Prop}(s x:Operand)(L:o.guard=none)(V:o.op=Op.call { callee:=Callee.builtin Builtin.append,args:=#[s,x],argTypes:=#[22,22] })(Y:a.eval s=v)(aj:a.eval x=.slice (some ⟨ad,0,none⟩) 1 1)(I:∀g cap W,Has W B (.slice (some ⟨g,0,none⟩) (xs.length+1) cap) (xs++[c])->Aside (fun k=>v.ownBlock=some k) w W->(v.ownBlock=some g∨w.1.size<=g)->z (a.put o.dst (.slice (some ⟨g,0,none⟩) (xs.length+1) cap)) W):
  if Region.wanted o (yielded ops a.tmps)=true then Oper.wp Tryz.prog o a w z Q else D:=by
 obtain⟨i,R,ak,Z,J⟩:=info_parts fT;refine step_append_lies w L s x 22 V B 5 i (.int .u8 0) 1 1 Tryz.underlying22 R ak Z J rfl (by decide) v xs.length (cellsOf xs) Y X ⟨ad,0,none⟩ 1 1 (cellsOf [c]) aj rfl ?_ ?_ (by decide) (by unfold maxLen;omega) (by omega) E w.1.size rfl ?_
 ·intro j u y;have U:j=0:=by
   have:=(List.getElem?_eq_some_iff.1 y).1;simp[cellsOf] at this;exact this
  subst U;simp[cellsOf] at y;subst y;rw[Lib.add_plain];exact K
 ·intro u ah;obtain⟨_,_,rfl⟩:=List.mem_map.1 ah;rfl
 ·intro g cap W A O M _;rw[<-bD] at A;refine I g cap W ?_ (gX O) ?_
  ·unfold Has;rw[List.length_append];exact A
  ·rcases M with h | h
   ·exact .inl h
   ·exact .inr (by omega)
theorem aZ.push{cap:Nat}{s:Dv.St}(h:aZ w B g v s)(o:Aside (fun k=>v.ownBlock=some k) w W)(L:Has W B (.slice (some ⟨g2,0,none⟩) l.length cap) l)(J:v.ownBlock=some g2∨w.1.size<=g2):
  aZ (W.setCell ⟨g,0,none⟩ (.slice (some ⟨g2,0,none⟩) l.length cap)) B g (.slice (some ⟨g2,0,none⟩) l.length cap) { s with b:=l }∧W.cell? ⟨g,0,none⟩=some v∧W.frozen? ⟨g,0,none⟩=false:=by
 have z:=h.lt;have K:W.1[g]?=some (.cells (cZ v s) 84):=by rw[o.block g z h.apart];exact h.lies
 have E:g2≠g:=by
  rcases J with A | A
  ·intro y;exact h.apart (by rw[<-y];exact A)
  ·omega
 have I:Aside (·=g) W (W.setCell ⟨g,0,none⟩ (.slice (some ⟨g2,0,none⟩) l.length cap)):=(Aside.refl (·=g) W).setCell (p:=⟨g,0,none⟩) (.inl rfl) _;refine⟨⟨?_,L.aside I (fun k D y=>?_),h.base,?_⟩,?_,?_⟩
 ·simp only[World.setCell,Array.getElem?_modify,K,if_true,Option.map_some];rw[if_neg (by simp)];rfl
 ·simp only[Value.ownBlock,Option.some.injEq] at D;exact E (D.trans y)
 ·simp only[Value.ownBlock,ne_eq,Option.some.injEq];exact E
 ·rw[o.cell (p:=⟨g,0,none⟩) z h.apart];exact h.cell 0
 ·rw[o.frozen (p:=⟨g,0,none⟩) z h.apart];exact h.thawed 0
end
section
open Go.RowKit
section
variable {B g:Nat} {v:Value} {s:Dv.St} {w:World}
def ga(w:World)(B g:Nat)(v:Value)(q:OA)(n cap:Nat)(t:Dv.St)(wr:World):Prop :=
 aZ wr B g (.slice q n cap) t∧n=t.b.length∧Aside (fun k=>k=g∨v.ownBlock=some k) w wr∧((Value.slice q n cap)=v∨∀k,(Value.slice q n cap).ownBlock=some k->v.ownBlock=some k∨w.1.size<=k)
theorem ga.next{wr:World}{n cap E:Nat}{q:OA}{t:Dv.St}{c:UInt8}(h:ga w B g v q n cap t wr){y:World}(M:Has W B (.slice (some ⟨g2,0,none⟩) (t.b.length+1) E) (t.b++[c]))(U:Aside (fun k=>(Value.slice q n cap).ownBlock=some k) y W)(J:(Value.slice q n cap).ownBlock=some g2∨y.1.size<=g2)(A:∃o,y.1=wr.1.push o)(V:y.os=wr.os)(Y:y.tape=wr.tape)(X:y.output=wr.output):
  ga w B g v (some ⟨g2,0,none⟩) (t.b.length+1) E { t with b:=t.b++[c] } (W.setCell ⟨g,0,none⟩ (.slice (some ⟨g2,0,none⟩) (t.b.length+1) E))∧W.cell? ⟨g,0,none⟩=some (.slice q n cap)∧W.frozen? ⟨g,0,none⟩=false:=by
 obtain⟨R,a1,I,h4⟩:=h;obtain⟨a3,A⟩:=A;have a2:y.1.size=wr.1.size+1:=by rw[A,Array.size_push]
 have Z:Aside (fun k=>(Value.slice q n cap).ownBlock=some k) wr y:=⟨V,Y,X,by omega,fun k D _=>by rw[A,Array.getElem?_push,if_neg (by omega)]⟩;have L:=Z.trans U (fun _ _ h=>h);have O:(t.b++[c]).length=t.b.length+1:=by simp
 rw[<-O] at M ⊢;obtain⟨aj,ak,a0⟩:=R.push L M (by rcases J with h | h;exact .inl h;exact .inr (by omega));refine⟨⟨aj,rfl,?_,.inr fun k D=>?_⟩,ak,a0⟩
 ·refine(I.trans L ?_).setCell (.inl (.inl rfl)) _;intro k D K;rcases h4 with h4 | h4
  ·right;rw[<-h4];exact K
  ·rcases h4 k K with z | z
   ·exact .inr z
   ·omega
 ·simp only[Value.ownBlock,Option.some.injEq] at D;subst D;rcases J with z | z
  ·rcases h4 with h4 | h4
   ·left;rw[<-h4];exact z
   ·exact h4 _ z
  ·right;have:=I.size;omega
theorem ua(h:aZ w B g v s)(p:OA)(c:Nat)(l:L8)(cc:l.length<=140737488351232)(R:At w p l)(V:l≠[]->∀b E,p=some ⟨b,E,none⟩->b≠g∧v.ownBlock≠some b)(hb:s.b.length<=2097152)(be:B<=w.1.size):
  Calls Tryz.prog 27 #[.pointer (some ⟨g,0,none⟩),.slice p l.length c] w (tG w B g v (Dv.tail s l)):=by
 have c0:w.cell? ⟨g,0,none⟩=some v:=h.cell 0;have ah:=xX h;obtain⟨q,cap,bn,-,-⟩:=h.has.at;subst bn;by_cases a5:2097152<s.b.length+l.length
 ·have L:Hid (Dv.tail s l=(2,s)):=by show _=_;unfold Dv.tail;rw[if_pos a5]
  have bp:(2097152:Int)<(s.b.length:Int)+(l.length:Int):=by omega
  clear h R V be;go_enter Tryz.func27,Tryz.ntmps27;go_wp2;go_ret;unfold tG;rw[L.out];exact⟨rfl,_,ah.out,Aside.refl _ _,.inl rfl⟩
 ·have L:Hid (Dv.tail s l=(0,{ s with b:=s.b++l,safe:=(s.b++l).length })):=by show _=_;unfold Dv.tail;rw[if_neg a5]
  have bp:(s.b.length:Int)+(l.length:Int)<=2097152:=by omega
  have a6:=xX R;have a8:=xX V;have b6:=h.lt;have b0:=h.base;clear h R V;go_enter Tryz.func27,Tryz.ntmps27;go_wp2;go_loopw [5] (fun Z wr=>∃(i:Nat) (I:OA) (n z:Nat),i<=l.length∧Z=.int .i64 i∧Hid (ga w B g (.slice q s.b.length cap) I n z { s with b:=s.b++l.take i } wr)) (fun Z _=>l.length-(intOf Z).toNat);case atStart=>exact⟨0,q,s.b.length,cap,by omega,rfl,by
   have e:{ s with b:=s.b++l.take 0 }=s:=(by cases s;simp);rw[e]
   exact⟨ah.out,rfl,Aside.refl _ _,.inl rfl⟩⟩
  case round=>
   obtain⟨i,I,n,z,b8,rfl,o⟩:=hrel;have ci:=o.out.2.2.1.size;have b3:wr.cell? ⟨g,0,none⟩=some (.slice I n z):=o.out.1.cell 0;have J:=xX o.out.1.has;have y:=o.out.2.1;have D:(s.b++l.take i).length=s.b.length+i:=(by rw[List.length_append,List.length_take];omega);simp only at y J;by_cases A:i<l.length
   ·obtain⟨b,E,rfl,bj,K⟩:=aL a6.out (by omega);have a1:=a8.out (fun K=>by rw[K] at A;simp at A) b E rfl;have bk:wr.cell? ⟨b,E+i,none⟩=some (.int .u8 (l[i].toNat:Int)):=by
     rw[o.out.2.2.1.cell (p:=⟨b,E+i,none⟩) bj (by
      rintro(O | O)
      ·exact a1.1 O
      ·exact a1.2 O)]
     exact K i A
    have aj:Hid (l.take (i+1)=l.take i++[l[i]]):=List.take_succ_eq_append_getElem A;have b9:(i:Int)<(l.length:Int):=(by omega);have bX:B<=wr.1.size:=(by omega);have b7:g<wr.1.size:=(by omega);clear K;obtain⟨Y,a3⟩:∃Y,Y=l[i]:=⟨_,rfl⟩;rw[<-a3] at bk aj;clear a3;obtain⟨xs,X⟩:∃xs,xs=s.b++l.take i:=⟨_,rfl⟩;rw[<-X] at o J y D;have bd:=xX X;have bs:=xX y;clear X y;have bq:xs.length+1<=140737488355328:=(by omega);have bN:=xX D;clear D;go_wp2;go_region_law (refine py (B:=B) (v:=.slice I n z) (xs:=xs) (by exact J.out.alloc _) Y bq (by simp;omega) wr.1.size (by exact World.cell?_alloc_new wr _ _ 0) (.tmp 25) (.tmp 30) (by rfl) (by rfl) (by rfl) (by rfl) ?_;intro g2 bT bO a4 a0 a2;obtain⟨ak,b1,b5⟩:=o.out.next a4 a0 a2 ⟨_,rfl⟩ rfl rfl rfl;have a9:=xX ak;clear ak a4 a0 a2)
    all_goals
     go_wp2;go_roundw;case rel=>exact⟨i+1,_,_,_,by omega,by go_num,by rw[aj.out,<-List.append_assoc,<-bd.out];exact a9.out⟩
     case measure=>simp[intOf];omega
   ·have U:i=l.length:=(by omega);have M:Hid (s.b++l.take i=s.b++l):=(by show _=_;rw[U,List.take_length]);have b4:=o.out.1.thawed 2;have b2:wr.cell? ⟨g,2,none⟩=some (.int .i64 s.safe):=o.out.1.cell 2;have bl:n=s.b.length+l.length:=(by rw[y,D,U]);have bb:Hid (aZ (wr.setCell ⟨g,2,none⟩ (.int .i64 (n:Nat))) B g (.slice I n z) { s with b:=s.b++l,safe:=(s.b++l).length }):=by
     have:=o.out.1.put (s':={ s with b:=s.b++l.take i,safe:=n }) 2 (.int .i64 (n:Nat)) rfl rfl;rw[y,M.out] at this;rw[y,M.out];exact this
    have a7:=xX o.out.2.2.1;have bc:=xX o.out.2.2.2;have cb:¬(i:Int)<(l.length:Int):=(by omega);clear o J y D U bl M A;go_wp2;go_ret;unfold tG;rw[L.out];exact⟨rfl,_,bb.out,a7.out.setCell (.inl (.inl rfl)) _,bc.out⟩
end
end
section
open Go.RowKit
theorem aZ.below{s:Dv.St}(h:aZ w B g v s)(hb:Below w.1.size w w'):aZ w' B g v s :=
 h.aside (F:=fun _=>False) (ae hb _) (fun h=>h) (fun _ _ h=>h)
section
variable {B g:Nat} {v:Value} {s:Dv.St} {w:World}
theorem ud(h:aZ w B g v s)(a n:Int)(b9:-9223372036854775808<=a)(cb:a<=9223372036854775807)(ct:n<=9223372036854775807)(hl:s.b.length<=1073741824)(cv:s.told+s.b.length<=9223372036854775807):
  Calls Tryz.prog 61 #[.pointer (some ⟨g,0,none⟩),.int .i64 a,.int .i64 n] w fun e w'=>∃q cap,e=.returned (.tuple #[.slice q (Dv.read s a n).1.length cap,.int .i64 ((Dv.read s a n).2.1:Nat)])∧Has w' w.1.size (.slice q (Dv.read s a n).1.length cap) (Dv.read s a n).1∧aZ w' B g v (Dv.read s a n).2.2∧Aside (fun k=>k=g) w w':=by
 have c0:w.cell? ⟨g,0,none⟩=some v:=h.cell 0;have a1:=xX h;obtain⟨p,cap,b1,X,-⟩:=h.has.at;subst b1;by_cases z:a<0∨(s.b.length:Int)<a∨n<0
 ·have D:Hid (Dv.read s a n=([],7,s)):=by show _=_;unfold Dv.read;rw[if_pos z]
  clear h X;have a8:∃q a3,Ending.returned (.tuple #[.slice none 0 0,.int .i64 7])=.returned (.tuple #[.slice q (Dv.read s a n).1.length a3,.int .i64 ((Dv.read s a n).2.1:Nat)])∧Has w w.1.size (.slice q (Dv.read s a n).1.length a3) (Dv.read s a n).1∧aZ w B g (.slice p s.b.length cap) (Dv.read s a n).2.2∧Aside (fun k=>k=g) w w:=by
   rw[D.out];exact⟨none,0,rfl,aI _ _,a1.out,Aside.refl _ _⟩
  have O:=xX a8;clear a8 D;by_cases a5:a<0
  ·clear z;have a7:decide (a<0)=true:=decide_eq_true a5;go_enter Tryz.func61,Tryz.ntmps61;go_wp2;go_ret2;exact O.out
  ·have a7:decide (a<0)=false:=decide_eq_false a5;by_cases V:(s.b.length:Int)<a
   ·clear z;go_enter Tryz.func61,Tryz.ntmps61;go_wp2;go_ret2;exact O.out
   ·have a6:n<0:=(by omega);have bs:decide ((s.b.length:Int)<a)=false:=decide_eq_false V;clear z;go_enter Tryz.func61,Tryz.ntmps61;go_wp2;go_ret2;exact O.out
 ·obtain⟨i,rfl⟩:∃i:Nat,a=(i:Int):=⟨a.toNat,by omega⟩;obtain⟨m,rfl⟩:∃m:Nat,n=(m:Int):=⟨n.toNat,by omega⟩;have cn:i<=s.b.length:=by omega
  obtain⟨L,M⟩:∃L,L=(s.b.drop i).take m:=⟨_,rfl⟩;have D:Hid (Dv.read s i m=(L,0,{ s with told:=s.told+L.length })):=by show _=_;unfold Dv.read;rw[if_neg z,M];rfl
  have J:L.length=min m (s.b.length-i):=by rw[M,List.length_take,List.length_drop]
  have bk:=xX J;have bj:Hid (∀k (V:k<L.length) (a6:i+k<s.b.length),L[k]=s.b[i+k]):=by
   intro k V a6;subst M;rw[List.getElem_take,List.getElem_drop]
  have be:=xX X;have a7:decide ((i:Int)<0)=false:=decide_eq_false (by omega);have bs:decide (s.b.length<i)=false:=decide_eq_false (by omega);have cc:decide ((m:Int)<0)=false:=decide_eq_false (by omega);have Z:=h.lt;have bl:w.cell? ⟨g,7,none⟩=some (.int .i64 s.told):=h.cell 7;have bp:=h.thawed 7;clear h X z M J;go_enter Tryz.func61,Tryz.ntmps61;go_wp2;go_loopw [8,9] (fun b5 ak wr=>∃k:Nat,k<=L.length∧ak=.int .i64 ((i:Int)+k)∧Hid (Has wr w.1.size b5 (L.take k)∧Below w.1.size w wr)) (fun _ ak _=>(i+L.length)-(intOf ak).toNat);case atStart=>exact⟨0,by omega,by go_num,aI _ _,xY⟩
  case round=>
   obtain⟨k,co,rfl,y⟩:=hrel;have cj:wr.cell? ⟨g,0,none⟩=some (.slice p s.b.length cap):=(by rw[y.out.2.cell (p:=⟨g,0,none⟩) Z];exact c0);have J:=bk.out;by_cases K:k<L.length
   ·have a9:i+k<s.b.length:=(by omega);obtain⟨b,o,rfl,bO,Y⟩:=aL be.out (by omega);have bT:wr.cell? ⟨b,o+(i+k),none⟩=some (.int .u8 (s.b[i+k].toNat:Int)):=(by rw[y.out.2.cell (p:=⟨b,o+(i+k),none⟩) bO];exact Y (i+k) a9);have U:Hid (L.take (k+1)=L.take k++[s.b[i+k]]):=by
     show _=_;rw[<-bj.out k K a9];exact List.take_succ_eq_append_getElem K
    have E:=xX y.out.1;have A:=xX y.out.2;have bq:=y.out.2.size;have b3:(L.take k).length<=1073741824:=(by rw[List.length_take];omega);have I:(i:Int)+(k:Int)<(s.b.length:Int):=(by omega);have bn:(k:Int)<(m:Int):=(by omega);have b8:((i:Int)+(k:Int)).toNat=i+k:=(by omega);have a4:decide ((i:Int)+(k:Int)<(s.b.length:Int))=true:=decide_eq_true I;have bb:=xX K;clear y Y K J;generalize s.b[i+k]=b4 at bT U;generalize L.take k=cw at U E b3;go_wp2_with (at_builtin;refine aW E.out b4 (by omega) bq rfl rfl rfl rfl rfl rfl ?_;intro g2 b7 b6 b0 bN);go_roundw;case rel=>exact⟨k+1,by have:=bb.out;omega,by go_num,by rw[U.out];have:=b0.has;simpa using this,A.out.trans bN⟩
    case measure=>have:=bb.out;simp[intOf];omega
   ·have ah:k=L.length:=(by omega);have R:Hid (L.take k=L):=(by show _=_;rw[ah,List.take_length]);obtain⟨q,cp,b2,-,-⟩:=y.out.1.at;subst b2;have bc:(L.take k).length=L.length:=(by rw[R.out]);rw[bc] at y ⊢;have E:Hid (Has wr w.1.size (.slice q L.length cp) L):=(by have:=y.out.1;rw[R.out] at this;exact this);have A:=xX y.out.2;have ci:wr.cell? ⟨g,7,none⟩=some (.int .i64 s.told):=(by rw[y.out.2.cell (p:=⟨g,7,none⟩) Z];exact bl);have ck:wr.frozen? ⟨g,7,none⟩=false:=(by rw[y.out.2.frozen (p:=⟨g,7,none⟩) Z];exact bp);have cq:L.length<=s.b.length:=(by omega);have a2:Hid (aZ (wr.setCell ⟨g,7,none⟩ (.int .i64 ((s.told:Int)+(L.length:Int)))) B g (.slice p s.b.length cap) { s with told:=s.told+L.length }):=by
     have:=(a1.out.below A.out).put (s':={ s with told:=s.told+L.length }) 7 (.int .i64 ((s.told:Int)+(L.length:Int))) (by simp[cZ]) rfl;exact this
    have a0:Hid (Has (wr.setCell ⟨g,7,none⟩ (.int .i64 ((s.told:Int)+(L.length:Int)))) w.1.size (.slice q L.length cp) L) :=
     E.out.aside ((Aside.refl (·=g) wr).setCell (p:=⟨g,7,none⟩) (.inl rfl) _) (fun j bX Y=>by have:=(E.out.lt j bX).1;omega)
    have aj:¬((i:Int)+(k:Int)<(s.b.length:Int)∧(k:Int)<(m:Int)):=(by omega);have cs:(s.told:Int)+(L.length:Int)<=9223372036854775807:=(by omega);clear y K R bc J;by_cases I:(i:Int)+(k:Int)<(s.b.length:Int)
    ·have bn:¬(k:Int)<(m:Int):=fun h=>aj ⟨I,h⟩;have a4:decide ((i:Int)+(k:Int)<(s.b.length:Int))=true:=decide_eq_true I;clear aj ah;go_wp2;go_ret2;rw[D.out];exact⟨q,cp,rfl,a0.out,a2.out,(ae A.out (fun k=>k=g)).setCell (p:=⟨g,7,none⟩) (.inl rfl) _⟩
    ·have a4:decide ((i:Int)+(k:Int)<(s.b.length:Int))=false:=decide_eq_false I;clear aj ah;go_wp2;go_ret2;rw[D.out];exact⟨q,cp,rfl,a0.out,a2.out,(ae A.out (fun k=>k=g)).setCell (p:=⟨g,7,none⟩) (.inl rfl) _⟩
end
end
end Go.Proofs.YtdkammppnkhhoaaGreatDoor
