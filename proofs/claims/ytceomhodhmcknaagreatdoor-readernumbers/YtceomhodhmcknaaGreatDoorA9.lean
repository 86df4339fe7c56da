import Derived.Deep.RegionLaw
import Derived.Test.YtceomhodhmcknaaGreatDoorB20
set_option maxRecDepth 100000
set_option maxHeartbeats 4000000
namespace Go.Proofs.YtceomhodhmcknaaGreatDoor
variable{B b bx c g k k' x x':Nat}{w w':World}{l:L8}{f v:Value}{p q:OA}
namespace Dv
structure St where
 b:L8
 most:Nat
 safe:Nat
 down:Bool
 bound:Bool
 after:Nat
 keep:Nat
 told:Nat
 done:Nat
def new(quota:Nat):St:=⟨[],quota,0,false,false,0,0,0,0⟩
def may(s:St):Bool:=!s.bound||decide (0<s.after)
def did(s:St):St:={ s with after:=if s.bound then s.after-1 else s.after,done:=s.done+1 }
def fails(s:St):St:={ s with b:=if s.keep<s.b.length-s.safe then s.b.take (s.safe+s.keep) else s.b,bound:=false,down:=true }
def cut(s:St)(n:Int):Nat×St :=
 if s.down then (50,s) else if n<0∨(s.b.length:Int)<n then (7,s) else if may s then (0,{ did s with b:=s.b.take n.toNat,safe:=if n.toNat<s.safe then n.toNat else s.safe }) else (51,fails s)
def read(s:St)(a n:Int):L8×Nat×St :=
 if a<0∨(s.b.length:Int)<a∨n<0 then ([],7,s) else
  let l:=(s.b.drop a.toNat).take n.toNat
  (l,0,{ s with told:=s.told+l.length })
def fail(s:St)(after keep:Int):Nat×St:=if s.down then (50,s) else if after<0∨keep<0 then (1,s) else (0,{ s with bound:=true,after:=after.toNat,keep:=keep.toNat })
def tail(s:St)(l:L8):Nat×St:=if 2097152<s.b.length+l.length then (2,s) else (0,{ s with b:=s.b++l,safe:=(s.b++l).length })
def Sound(s:St):Prop:=s.safe<=s.b.length
def Keeps(s t:St)(all:L8):Prop:=s.b.take s.safe <+: t.b∧t.b <+: all∧Sound t∧t.most=s.most
structure Held(s t:St)(e:Nat)(all:L8):Prop where
 keeps:Keeps s t all
 room:s.b.length<=s.most->t.b.length<=t.most
 power:(e=51)↔(s.down=false∧t.down=true)
 space:e=52->t.b=s.b
end Dv
section
open Go.RowKit
def bE(v:Value)(s:Dv.St)(x k:Nat)(f:Value):AV:=#[v,.int .i64 s.most,.int .i64 s.safe,.int .i64 s.told,.int .i64 s.done,.bool s.down,.bool s.bound,.int .i64 x,.int .i64 k,f]
structure aS(w:World)(B g:Nat)(v:Value)(s:Dv.St)(x k:Nat):Prop where
 lies:w.1[g]?=some (.cells (bE v s x k .nilFunc) 76)
 has:Has w B v s.b
 base:B<=g
 due:s.bound=true->x=s.after∧k=s.keep
 left:x<9223372036854775808
 keep:k<9223372036854775808
theorem aS.lt{s:Dv.St}(h:aS w B g v s x k):g<w.1.size:=(Array.getElem?_eq_some_iff.1 h.lies).1
theorem fY{s:Dv.St}(h:w.1[g]?=some (.cells (bE v s x k f) 76))(i:Nat):w.cell? ⟨g,i,none⟩=(bE v s x k f)[i]?:=by
 unfold World.cell?
 rw[h]
 rfl
theorem kf{s:Dv.St}(h:w.1[g]?=some (.cells (bE v s x k f) 76))(i:Nat):w.frozen? ⟨g,i,none⟩=false:=by
 simp[World.frozen?,h]
theorem lR{v':Value}{s s':Dv.St}{f':Value}(h:w.1[g]?=some (.cells (bE v s x k f) 76))(i:Nat)(u:Value)(he:bE v' s' x' k' f'=(bE v s x k f).setIfInBounds i u):(w.setCell ⟨g,i,none⟩ u).1[g]?=some (.cells (bE v' s' x' k' f') 76):=by
 simp only[World.setCell,Array.getElem?_modify,h,if_true,Option.map_some]
 rw[if_neg (by simp),he]
theorem aS.cell{s:Dv.St}(h:aS w B g v s x k)(i:Nat):w.cell? ⟨g,i,none⟩=(bE v s x k .nilFunc)[i]?:=fY h.lies i
theorem aS.thawed{s:Dv.St}(h:aS w B g v s x k)(i:Nat):w.frozen? ⟨g,i,none⟩=false:=kf h.lies i
theorem fZ(h:Has w B v l){C:AV}{T:TypeId}(hg:w.1[g]?=some (.cells C T))(hT:T≠5):v.ownBlock≠some g:=by
 intro hc
 rcases h.2 with ⟨h1,_⟩ | ⟨g',cap,cur,h1,_,h3,_⟩
 ·rw[h1] at hc;cases hc
 ·rw[h1] at hc
  simp only[Value.ownBlock,Option.some.injEq] at hc
  subst hc
  rw[h3] at hg
  injection hg with h4
  injection h4 with _ h5
  exact hT h5.symm
theorem aS.apart{s:Dv.St}(h:aS w B g v s x k):v.ownBlock≠some g:=fZ h.has h.lies (by decide)
theorem aS.put{s s':Dv.St}(h:aS w B g v s x k)(i:Nat)(u:Value)(he:bE v s' x' k' .nilFunc=(bE v s x k .nilFunc).setIfInBounds i u)(hb:s'.b=s.b)(hd:s'.bound=true->x'=s'.after∧k'=s'.keep)(hx:x'<9223372036854775808)(hk:k'<9223372036854775808):aS (w.setCell ⟨g,i,none⟩ u) B g v s' x' k':=by
 have ha:Aside (·=g) w (w.setCell ⟨g,i,none⟩ u):=(Aside.refl (·=g) w).setCell (p:=⟨g,i,none⟩) (.inl rfl) u
 refine⟨lR h.lies i u he,?_,h.base,hd,hx,hk⟩
 rw[hb]
 exact h.has.aside ha (fun j hj hc=>h.apart (by rw[hj,hc]))
theorem aS.aside{s:Dv.St}{F:Nat->Prop}(h:aS w B g v s x k)(ha:Aside F w w')(hg:¬F g)(hv:∀k,v.ownBlock=some k->¬F k):aS w' B g v s x k :=
 ⟨by rw[ha.block g h.lt hg];exact h.lies,h.has.aside ha hv,h.base,h.due,h.left,h.keep⟩
theorem aS.below{s:Dv.St}(h:aS w B g v s x k)(hb:Below w.1.size w w'):aS w' B g v s x k :=
 h.aside (F:=fun _=>False) (ag hb _) (fun h=>h) (fun _ _ h=>h)
def sQ(w:World)(B g:Nat)(v:Value)(r:Nat×Dv.St)(e:Ending)(w':World):Prop :=
 e=.returned (.int .i64 (r.1:Nat))∧∃v' x' k',aS w' B g v' r.2 x' k'∧Aside (fun i=>i=g∨v.ownBlock=some i) w w'∧∀i,v'.ownBlock=some i->v.ownBlock=some i∨w.1.size<=i
section
variable {B g:Nat} {v:Value} {s:Dv.St} {x k:Nat} {w:World}
theorem vg(h:aS w B g v s x k):Calls Tryz.prog 54 #[.pointer (some ⟨g,0,none⟩)] w fun e w'=>e=.returned (.int .i64 (s.b.length:Nat))∧w'=w:=by
 have c0:w.cell? ⟨g,0,none⟩=some v:=h.cell 0
 obtain⟨p,cap,hv,-,-⟩:=h.has.at
 subst hv
 clear h
 go_enter Tryz.func54,Tryz.ntmps54
 go_wp2
 go_ret
 exact⟨rfl,rfl⟩
theorem kUp(h:aS w B g v s x k):Calls Tryz.prog 23 #[.pointer (some ⟨g,0,none⟩)] w fun e w'=>e=.returned (.bool (!s.down))∧w'=w:=by
 have c0:w.cell? ⟨g,5,none⟩=some (.bool s.down):=h.cell 5
 clear h
 go_enter Tryz.func23,Tryz.ntmps23
 go_wp2
 go_ret
 exact⟨rfl,rfl⟩
theorem rM(h:aS w B g v s x k):Calls Tryz.prog 7 #[.pointer (some ⟨g,0,none⟩)] w fun e w'=>e=.returned (.int .i64 (s.told:Nat))∧w'=w:=by
 have c0:w.cell? ⟨g,3,none⟩=some (.int .i64 s.told):=h.cell 3
 clear h
 go_enter Tryz.func7,Tryz.ntmps7
 go_wp2
 go_ret
 exact⟨rfl,rfl⟩
end
end
section
open Go.RowKit
theorem ko{P:Program}{f:FuncId}{fn:Func}{c:Code}(hf : P.funcs[f]?=some fn)(hname : (fn.name== "runtime.NumGoroutine")=false)(hb : fn.body=some c)(args : AV)(w : World):
  (callFunc f args).run P w=.ok (.enter f args) w:=by
 have h1 : fn.name≠ "runtime.NumGoroutine" := by simpa using hname
 simp[callFunc,hf,h1,hb]
theorem Has.cut{n cap m:Nat}(h:Has w B (.slice q m cap) l)(hn:n<=l.length):Has w B (.slice q n cap) (l.take n):=by
 have el:(l.take n).length=n:=by rw[List.length_take];omega
 unfold Has World.ownsRow
 rw[el]
 refine⟨by rw[aQ,el,Nat.mul_one],?_⟩
 rcases h.2 with ⟨h1,h0⟩ | ⟨g',cap',cur,h1,h2,h3,h4,h5,h6,h7⟩
 ·have:n=0:=by omega
  subst this
  cases h1
  exact .inl ⟨rfl,rfl⟩
 ·cases h1
  refine .inr ⟨g',cap,cur,rfl,h2,h3,by omega,h5,h6,?_⟩
  have:cur.toList.take (n*1)=(cur.toList.take (l.length*1)).take (n*1):=by rw[List.take_take,Nat.min_eq_left (by omega)]
  rw[this,h7]
  simp[cellsOf,List.map_take]
theorem bz(P:Program)(w:World)(a:Addr)(m:Mode)(fn:Fn)(first captured:AV):(store a (.func fn first captured) m).run P w=stored P w a (.func fn first captured) m:=run_store P w a _ m rfl
theorem bF(P:Program)(w:World)(a:Addr)(m:Mode):(store a .nilFunc m).run P w=stored P w a .nilFunc m:=run_store P w a _ m rfl
attribute [local go_sem] bz bF
theorem mG{ops:Array Oper}{o:Oper}{a:Act}{K:Act->World->Prop}{Q:Exit->Act->World->Prop}{E:Prop}{f:FuncId}{env:AV}{u:Value}{R:Ending->World->Prop}(y x:Operand)(t:TypeId)(hg:o.guard=none)(hop:o.op=Op.call { callee:=.value y,args:=#[x],argTypes:=#[t] })(hy:a.eval y=.func (.func f) #[] env)(hx:a.eval x=u)(hE:∀(args:AV) (w:World),(callFunc f args).run Tryz.prog w=.ok (.enter f args) w)(hc:Calls Tryz.prog f (#[u]++env) w R)(hR:∀e w',R e w'->∃v,e=.returned v∧K (a.put o.dst v) w'):
  if Region.wanted o (yielded ops a.tmps)=true then Oper.wp Tryz.prog o a w K Q else E:=by
 have hw:Region.wanted o (yielded ops a.tmps)=true:=by simp[Region.wanted,hg]
 rw[if_pos hw]
 unfold Oper.wp
 have he:(execOp a.eval o).run Tryz.prog w=.ok (.enter f (#[u]++env)) w:=by
  simp[execOp,hop,resolve,invoke,hx,hy,Deferred.ofValue,hE]
 rw[he,Oper.upon_enter]
 refine hc.mono ?_
 intro e w' hr
 obtain⟨v,rfl,hk⟩:=hR e w' hr
 exact hk
theorem nP{s:Dv.St}{cap:Nat}{fv:Value}{w2:World}(hu:Has w2 B (.slice q l.length cap) l)(hl2:w2.1[g]?=some (.cells (bE v s x k fv) 76))(hB:B<=g)(hd:s.bound=true->x=s.after∧k=s.keep)(hx:x<9223372036854775808)(hk:k<9223372036854775808)(m:Nat)(hm:m=min s.safe l.length):
  Aside (·=g) w2 (((w2.setCell ⟨g,0,none⟩ (.slice q l.length cap)).setCell ⟨g,9,none⟩ .nilFunc).setCell ⟨g,2,none⟩ (.int .i64 (m:Int))).drew∧aS (((w2.setCell ⟨g,0,none⟩ (.slice q l.length cap)).setCell ⟨g,9,none⟩ .nilFunc).setCell ⟨g,2,none⟩ (.int .i64 (m:Int))).drew B g (.slice q l.length cap) { s with b:=l,safe:=min s.safe l.length } x k:=by
 have l3:(w2.setCell ⟨g,0,none⟩ (.slice q l.length cap)).1[g]?=some (.cells (bE (.slice q l.length cap) s x k fv) 76):=lR hl2 0 _ rfl
 have l4:((w2.setCell ⟨g,0,none⟩ (.slice q l.length cap)).setCell ⟨g,9,none⟩ .nilFunc).1[g]?=some (.cells (bE (.slice q l.length cap) s x k .nilFunc) 76):=lR l3 9 _ rfl
 have l5:(((w2.setCell ⟨g,0,none⟩ (.slice q l.length cap)).setCell ⟨g,9,none⟩ .nilFunc).setCell ⟨g,2,none⟩ (.int .i64 (m:Int))).drew.1[g]?=some (.cells (bE (.slice q l.length cap) { s with b:=l,safe:=min s.safe l.length } x k .nilFunc) 76):=by
  rw[<-hm]
  exact lR l4 2 _ rfl
 have ha:Aside (·=g) w2 (((w2.setCell ⟨g,0,none⟩ (.slice q l.length cap)).setCell ⟨g,9,none⟩ .nilFunc).setCell ⟨g,2,none⟩ (.int .i64 (m:Int))).drew:=((((Aside.refl (·=g) w2).setCell (p:=⟨g,0,none⟩) (.inl rfl) _).setCell (p:=⟨g,9,none⟩) (.inl rfl) _).setCell (p:=⟨g,2,none⟩) (.inl rfl) _).drew
 exact⟨ha,l5,hu.aside ha (fun j hj hc=>fZ hu hl2 (by decide) (by rw[hj,hc])),hB,hd,hx,hk⟩
section
variable {B g:Nat} {v:Value} {s:Dv.St} {x k:Nat} {w:World}
theorem nQ(f:FuncId)(env:AV)(Q:Value->L8->World->Prop)(h:aS w B g v s x k)(hE:∀(args:AV) (w:World),(callFunc f args).run Tryz.prog w=.ok (.enter f args) w)(hT:∀w',w'.1[g]?=some (.cells (bE v s x k (.func (.func f) #[] env)) 76)->Aside (·=g) w w'->Calls Tryz.prog f (#[v]++env) w' fun e w''=>∃u l,e=.returned u∧Has w'' B u l∧w''.1[g]?=some (.cells (bE v s x k (.func (.func f) #[] env)) 76)∧Q u l w''):
  Calls Tryz.prog 32 #[.pointer (some ⟨g,0,none⟩),.func (.func f) #[] env] w fun e w3=>e=.returned (.tuple #[])∧∃u l w'',Q u l w''∧Aside (·=g) w'' w3∧aS w3 B g u { s with b:=l,safe:=min s.safe l.length } x k:=by
 have c9:w.cell? ⟨g,9,none⟩=some .nilFunc:=h.cell 9
 have f9:=h.thawed 9
 have HR:=xQ h
 have l1:(w.setCell ⟨g,9,none⟩ (.func (.func f) #[] env)).1[g]?=some (.cells (bE v s x k (.func (.func f) #[] env)) 76):=lR h.lies 9 _ rfl
 have d0:(w.setCell ⟨g,9,none⟩ (.func (.func f) #[] env)).cell? ⟨g,0,none⟩=some v:=fY l1 0
 have d9:(w.setCell ⟨g,9,none⟩ (.func (.func f) #[] env)).cell? ⟨g,9,none⟩=some (.func (.func f) #[] env):=fY l1 9
 have HT:=xQ (hT (w.setCell ⟨g,9,none⟩ (.func (.func f) #[] env)).drew l1 (((Aside.refl (·=g) w).setCell (p:=⟨g,9,none⟩) (.inl rfl) _).drew))
 have HE:=xQ hE
 clear hT h l1 hE
 go_enter Tryz.func32,Tryz.ntmps32
 go_wp2_with fail
 go_region_law (refine mG (.tmp 12) (.tmp 16) 22 (by rfl) (by rfl) (by rfl) (by rfl) HE.out HT.out ?_;rintro e w2 ⟨u,l,rfl,hu,hl2,hQ⟩;refine⟨_,rfl,?_⟩;obtain⟨q,cap,hvu,-,-⟩:=hu.at;subst hvu;have c0:w2.cell? ⟨g,0,none⟩=some v:=fY hl2 0;have f0:=kf hl2 0;have HU:=xQ hu;have HL2:=xQ hl2;have HQ:=xQ hQ;clear hu hl2 hQ)
 all_goals
  have f9':=kf HL2.out 9
  have f2:=kf HL2.out 2
  have e2:w2.cell? ⟨g,2,none⟩=some (.int .i64 s.safe):=fY HL2.out 2
  have e99:w2.cell? ⟨g,9,none⟩=some (.func (.func f) #[] env):=fY HL2.out 9
  have HEn:=xQ (nP HU.out HL2.out HR.out.base HR.out.due HR.out.left HR.out.keep)
  by_cases hlt:l.length<s.safe
  ·have hlt1:(l.length:Int)<(s.safe:Int):=by omega
   have HM:Hid (l.length=min s.safe l.length):=by show _=_;omega
   clear HT HU HL2 HR
   go_wp2
   go_region_law (fail)
   all_goals
    go_wp2
    go_end0
    exact⟨rfl,_,l,w2,HQ.out,HEn.out _ HM.out⟩
  ·have HM:Hid (s.safe=min s.safe l.length):=by show _=_;omega
   have hlt1:¬(l.length:Int)<(s.safe:Int):=by omega
   clear HT HU HL2 HR
   go_wp2
   go_region_law (fail)
   all_goals
    go_wp2
    go_end0
    exact⟨rfl,_,l,w2,HQ.out,HEn.out _ HM.out⟩
end
end
section
open Go.RowKit
attribute [local go_sem] bz bF
theorem sD{T:TypeId}(h:w.1[b]?=some (.cells #[v] T)):w.cell? ⟨b,0,none⟩=some v:=by
 simp[World.cell?,h]
theorem sC{o:Obj}(h:w.1[b]?=some o):b<w.1.size:=(Array.getElem?_eq_some_iff.1 h).1
section
variable {B g:Nat} {v:Value} {s:Dv.St} {x k:Nat} {w:World}
end
end
section
open Go.RowKit
attribute [local go_sem] bz bF
theorem aS.drewN{s:Dv.St}(h:aS w B g v s x k)(j:Nat):aS (w.drewN j) B g v s x k:=⟨h.lies,h.has.drewN j,h.base,h.due,h.left,h.keep⟩
section
variable {B g:Nat} {v:Value} {s:Dv.St} {x k:Nat} {w:World}
end
end
section
open Go.RowKit
attribute [local go_sem] bz bF
theorem rp(B:Nat)(v:Value)(xs l:L8)(p:OA)(c:Nat)(w:World)(hown:Has w B v xs)(h:At w p l)(hlen:xs.length+l.length<=140737488355328)(hB:B<=w.1.size):
  ∃(q:OA) (cap:Nat) (W:World),cf Tryz.prog 22 22 22 v (.slice p l.length c) w (.slice q (xs++l).length cap) W∧Has W B (.slice q (xs++l).length cap) (xs++l)∧Aside (fun k=>v.ownBlock=some k) w W∧(xs++l).length<=cap∧∀k,(Value.slice q (xs++l).length cap).ownBlock=some k->v.ownBlock=some k∨w.1.size<=k:=by
 obtain⟨i,hi,hz,hsz,hby⟩:=info_parts fw
 by_cases h0:l=[]
 ·subst h0
  obtain⟨q,cap,rfl,-,hcap⟩:=hown.at
  rw[List.append_nil]
  exact⟨q,cap,w,⟨run_append_nothing (P:=Tryz.prog) w 22 22 22 5 i Tryz.underlying22 hi q xs.length cap hcap (.slice p 0 c) (by rw[hsz];exact fU c h)⟩,hown,Aside.refl _ _,hcap,fun k hk=>.inl hk⟩
 ·obtain⟨b,o,rfl,hbl,hc⟩:=aZ h (List.length_pos_iff.2 h0)
  obtain⟨g,cap,W,hr,hm,hgr,hgb,_⟩:=run_append_lies (P:=Tryz.prog) w 22 22 B 5 i (.int .u8 0) 1 1 Tryz.underlying22 hi hz hsz hby rfl (by decide) v xs.length (cellsOf xs) hown ⟨b,o,none⟩ l.length c (cellsOf l) (by rw[aQ,Nat.mul_one])
   (fun j u hj=>by
    have hj2:j<l.length:=by
     have:=(List.getElem?_eq_some_iff.1 hj).1
     simpa[cellsOf] using this
    rw[bB l j hj2] at hj
    cases hj
    rw[Lib.add_plain]
    exact hc j hj2)
   (fun u hu=>by obtain⟨_,_,rfl⟩:=List.mem_map.1 hu;rfl) (List.length_pos_iff.2 h0) (by unfold maxLen;omega) (by omega) hB w.1.size rfl
  rw[<-bH,<-List.length_append] at hm
  rw[<-List.length_append] at hr
  have hH:Has W B (.slice (some ⟨g,0,none⟩) (xs++l).length cap) (xs++l):=hm
  refine⟨some ⟨g,0,none⟩,cap,W,⟨hr⟩,hH,cd hgr,?_,?_⟩
  ·obtain⟨q',cap',he,_,h2⟩:=hH.at
   injection he with _ _ e2
   omega
  ·intro k hk
   simp only[Value.ownBlock,Option.some.injEq] at hk
   subst hk
   rcases hgb with h1 | h1
   ·exact .inl h1
   ·exact .inr (by omega)
theorem kU{xs:L8}(hown:Has w B v xs)(h:At w p l)(hlen:xs.length+l.length<=140737488355328)(hB:B<=w.1.size){ops:Array Oper}{rest:List Oper}{o:Oper}{a:Act}{Q:Exit->Act->World->Prop}{y x:Operand}(ht:o.type=22)(hg:o.guard=none)(hop:o.op=Op.call { callee:=Callee.builtin Builtin.append,args:=#[y,x],argTypes:=#[22,22] })(hs:a.eval y=v)(hx:a.eval x=.slice p l.length c)(hK:∀ys q cap W,Hid (ys=xs++l)->Has W B (.slice q ys.length cap) ys->Aside (fun k=>v.ownBlock=some k) w W->(∀k,(Value.slice q ys.length cap).ownBlock=some k->v.ownBlock=some k∨w.1.size<=k)->wpList Tryz.prog ops Q rest (a.put o.dst (.slice q ys.length cap)) W):
  wpList Tryz.prog ops Q (o::rest) a w:=by
 obtain⟨q,cap,W,hr,hm,ha,-,hb⟩:=rp B v xs l p c w hown h hlen hB
 have hr':cf Tryz.prog 22 22 o.type v (.slice p l.length c) w (.slice q (xs++l).length cap) W:=by rw[ht];exact hr
 exact aP hr' hg hop hs hx (hK _ q cap W (xQ rfl) hm ha hb)
theorem oD(p:OA)(c:Nat)(l:L8)(hl:l.length<=140737488351232)(w:World)(h:At w p l):
  Calls Tryz.prog 86 #[.slice p l.length c] w fun e w'=>∃q cap,e=.returned (.slice q l.length cap)∧Has w' w.1.size (.slice q l.length cap) l∧Below w.1.size w w':=by
 have HA:=xQ h
 clear h
 go_enter Tryz.func86,Tryz.ntmps86
 go_wp2_with (at_builtin;refine kU (xs:=[]) (v:=.slice none 0 0) (aX _ _) HA.out (by simp;omega) xX rfl rfl rfl rfl rfl ?_;intro ys q cap W HY hH ha _)
 go_ret
 have hy:ys=l:=HY.out
 subst hy
 exact⟨q,cap,rfl,hH,ha.below xX (fun k _ hk=>by cases hk)⟩
section
variable {B g:Nat} {v:Value} {s:Dv.St} {x k:Nat} {w:World}
end
end
section
open Go.RowKit
attribute [local go_sem] bz bF
section
variable {B g:Nat} {v:Value} {s:Dv.St} {x k:Nat} {w:World}
theorem vf(hH:Has w B v s.b)(hb:w.1[bx]?=some (.cells #[.slice p l.length c] 22))(hA:At w p l)(hlen:s.b.length+l.length<=140737488355328)(hB:B<=w.1.size):
  Calls Tryz.prog 33 #[v,.pointer (some ⟨bx,0,none⟩)] w fun e w'=>∃q cap,e=.returned (.slice q (s.b++l).length cap)∧Has w' B (.slice q (s.b++l).length cap) (s.b++l)∧Aside (fun k=>v.ownBlock=some k) w w'∧∀k,(Value.slice q (s.b++l).length cap).ownBlock=some k->v.ownBlock=some k∨w.1.size<=k:=by
 have cb:=sD hb
 have HH:=xQ hH
 have HA:=xQ hA
 obtain⟨q0,cap0,hv,-,-⟩:=hH.at
 subst hv
 clear hb hH hA
 go_enter Tryz.func33,Tryz.ntmps33
 go_wp2_with (at_builtin;refine kU HH.out HA.out (by omega) hB rfl rfl rfl rfl rfl ?_;intro ys q cap W HY hH2 ha hk)
 go_ret
 rw[<-HY.out]
 exact⟨q,cap,rfl,hH2,ha,hk⟩
theorem lf(h:aS w B g v s x k)(hb:w.1[bx]?=some (.cells #[.slice p l.length c] 22))(hx:bx≠g)(hA:At w p l)(hp:l≠[]->∀b o,p=some ⟨b,o,none⟩->b≠g)(hlen:s.b.length+l.length<=2097152)(hB:B<=w.1.size):
  Calls Tryz.prog 32 #[.pointer (some ⟨g,0,none⟩),.func (.func 33) #[] #[.pointer (some ⟨bx,0,none⟩)]] w fun e w3=>e=.returned (.tuple #[])∧∃q cap,aS w3 B g (.slice q (s.b++l).length cap) { s with b:=s.b++l,safe:=min s.safe (s.b++l).length } x k∧Aside (fun j=>j=g∨v.ownBlock=some j) w w3∧∀i,(Value.slice q (s.b++l).length cap).ownBlock=some i->v.ownBlock=some i∨w.1.size<=i:=by
 refine(nQ 33 #[.pointer (some ⟨bx,0,none⟩)] (fun u l' w''=>l'=s.b++l∧Aside (fun j=>j=g∨v.ownBlock=some j) w w''∧∃q cap,u=.slice q (s.b++l).length cap∧∀i,u.ownBlock=some i->v.ownBlock=some i∨w.1.size<=i) h (fun args w=>ko Tryz.func33 (by kernel_rfl) rfl args w) (fun w' hl' ha'=>?_)).mono ?_
 ·have hb':w'.1[bx]?=some (.cells #[.slice p l.length c] 22):=by rw[ha'.block _ (sC hb) hx];exact hb
  have hH:=h.has.aside ha' (fun j hj hc=>h.apart (by rw[hj,hc]))
  have hA':At w' p l:=by
   by_cases h0:l=[]
   ·exact .inl h0
   ·exact hA.aside ha' (fun b o he=>hp h0 b o he)
  refine(vf hH hb' hA' (by omega) (Nat.le_trans hB ha'.size)).mono ?_
  rintro e w'' ⟨q,cap,rfl,hH2,ha2,hk⟩
  refine⟨_,s.b++l,rfl,hH2,?_,rfl,(ha'.mono (fun i _ hi=>.inl hi)).trans ha2 (fun _ _ h=>.inr h),q,cap,rfl,fun i hi=>?_⟩
  ·rw[ha2.block g (sC hl') h.apart];exact hl'
  ·rcases hk i hi with h1 | h1
   ·exact .inl h1
   ·exact .inr (Nat.le_trans ha'.size h1)
 ·rintro e w3 ⟨rfl,u,l',w2,⟨rfl,ha2,q,cap,rfl,hk⟩,ha3,hK⟩
  exact⟨rfl,q,cap,hK,ha2.trans ha3 (fun _ _ h=>.inl h),hk⟩
theorem wO(h:aS w B g v s x k)(p:OA)(c:Nat)(l:L8)(hA:At w p l)(hp:l≠[]->∀b o,p=some ⟨b,o,none⟩->b≠g)(hb:s.b.length<=2097152)(hB:B<=w.1.size):
  Calls Tryz.prog 19 #[.pointer (some ⟨g,0,none⟩),.slice p l.length c] w (sQ w B g v (Dv.tail s l)):=by
 have hg:=h.lt
 have hB1:Below w.1.size w (w.alloc (.cells #[.slice p l.length c] 22)):=xY
 have hK1:=h.below hB1
 have HK1:=xQ hK1
 have HA1:Hid (Aside (fun i=>i=g∨v.ownBlock=some i) w (w.alloc (.cells #[.slice p l.length c] 22))):=ag hB1 _
 have c0:w.cell? ⟨g,0,none⟩=some v:=h.cell 0
 obtain⟨q,cap,hv,-,hcap⟩:=h.has.at
 subst hv
 by_cases hx:2097152<s.b.length+l.length
 ·have HE:Hid (Dv.tail s l=(2,s)):=by show _=_;unfold Dv.tail;rw[if_pos hx]
  have hx1:(2097152:Int)-(s.b.length:Int)<(l.length:Int):=by omega
  clear h hA hp hB hK1 hB1
  go_enter Tryz.func19,Tryz.ntmps19
  go_wp2
  go_quiet (fail)
  go_wp2
  go_ret
  unfold sQ
  rw[HE.out]
  exact⟨rfl,_,_,_,HK1.out.drewN _,HA1.out.drewN _,fun _ h=>.inl h⟩
 ·have HE:Hid (Dv.tail s l=(0,{ s with b:=s.b++l,safe:=(s.b++l).length })):=by show _=_;unfold Dv.tail;rw[if_neg hx]
  have hx1:¬(2097152:Int)-(s.b.length:Int)<(l.length:Int):=by omega
  have HC:=xQ (fun j=>lf (c:=c) (bx:=w.1.size) (hK1.drewN j) (cz w _) (by omega) ((hA.on hB1).drewN j) hp (by omega) (by simp;omega))
  clear h hA hp hK1 hB1
  go_enter Tryz.func19,Tryz.ntmps19
  go_wp2_with fail
  go_quiet (fail)
  go_wp2_with fail
  refine(HC.out _).mono ?_
  rintro e w3 ⟨rfl,q3,cap3,hK,ha,hk⟩
  have HA:=xQ ((HA1.out.drewN _).trans ha (fun _ _ h=>h))
  have HKk:Hid (∀i,(Value.slice q3 (s.b++l).length cap3).ownBlock=some i->(Value.slice q s.b.length cap).ownBlock=some i∨w.1.size<=i):=fun i hi=>by
   rcases hk i hi with h1 | h1
   ·exact .inl h1
   ·exact .inr (by simp at h1;omega)
  have c3:w3.cell? ⟨g,0,none⟩=some (.slice q3 (s.b++l).length cap3):=hK.cell 0
  have c2:w3.cell? ⟨g,2,none⟩=some (.int .i64 ((min s.safe (s.b++l).length:Nat):Int)):=hK.cell 2
  have f2:=hK.thawed 2
  have HK:Hid (aS (w3.setCell ⟨g,2,none⟩ (.int .i64 ((s.b++l).length:Nat))) B g (.slice q3 (s.b++l).length cap3) { s with b:=s.b++l,safe:=(s.b++l).length } x k):=hK.put 2 _ rfl rfl hK.due hK.left hK.keep
  generalize s.b++l=ys at HK HKk HE c3 c2 ⊢
  generalize min s.safe ys.length=mm at c2
  clear hK ha hk
  go_wp2
  go_ret
  unfold sQ
  rw[HE.out]
  exact⟨rfl,_,_,_,HK.out,HA.out.setCell (.inl (.inl rfl)) _,HKk.out⟩
end
end
section
open Go.RowKit
attribute [local go_sem] bz bF
theorem tv(q:Nat)(h:q<=1048576)(w:World):Calls Tryz.prog 17 #[.int .i64 q] w fun e w'=>e=.returned (.tuple #[.pointer (some ⟨w.1.size,0,none⟩),.int .i64 0])∧aS w' w.1.size w.1.size (.slice none 0 0) (Dv.new q) 0 0∧Below w.1.size w w':=by
 have HR:Hid (aS (w.alloc (.cells (bE (.slice none 0 0) (Dv.new q) 0 0 .nilFunc) 76)) w.1.size w.1.size (.slice none 0 0) (Dv.new q) 0 0) :=
  ⟨cz w _,aX _ _,xX,fun _=>⟨rfl,rfl⟩,by omega,by omega⟩
 have HB:Hid (Below w.1.size w (w.alloc (.cells (bE (.slice none 0 0) (Dv.new q) 0 0 .nilFunc) 76))):=xY
 have h1:(q:Int)<=1048576:=by omega
 have hb0:decide ((q:Int)<0)=false:=decide_eq_false (by omega)
 go_enter Tryz.func17,Tryz.ntmps17
 go_wp2
 go_ret2
 exact⟨rfl,HR.out,HB.out⟩
section
variable {B g:Nat} {v:Value} {s:Dv.St} {x k:Nat} {w:World}
theorem wQ(h:aS w B g v s x k)(a n:Int)(ha1:-9223372036854775808<=a)(ha2:a<=9223372036854775807)(hn2:n<=9223372036854775807)(hl:s.b.length<=2097152)(ht:s.told+s.b.length<=9223372036854775807):
  Calls Tryz.prog 55 #[.pointer (some ⟨g,0,none⟩),.int .i64 a,.int .i64 n] w fun e w'=>∃q cap,e=.returned (.tuple #[.slice q (Dv.read s a n).1.length cap,.int .i64 ((Dv.read s a n).2.1:Nat)])∧Has w' w.1.size (.slice q (Dv.read s a n).1.length cap) (Dv.read s a n).1∧aS w' B g v (Dv.read s a n).2.2 x k∧Aside (fun k=>k=g) w w':=by
 have c0:w.cell? ⟨g,0,none⟩=some v:=h.cell 0
 have HR:=xQ h
 obtain⟨p,cap,hv,hA,hcap⟩:=h.has.at
 subst hv
 by_cases hx:a<0∨(s.b.length:Int)<a∨n<0
 ·have HE:Hid (Dv.read s a n=([],7,s)):=by show _=_;unfold Dv.read;rw[if_pos hx]
  clear h hA
  have hfin:∃q cap',Ending.returned (.tuple #[.slice none 0 0,.int .i64 7])=.returned (.tuple #[.slice q (Dv.read s a n).1.length cap',.int .i64 ((Dv.read s a n).2.1:Nat)])∧Has w w.1.size (.slice q (Dv.read s a n).1.length cap') (Dv.read s a n).1∧aS w B g (.slice p s.b.length cap) (Dv.read s a n).2.2 x k∧Aside (fun k=>k=g) w w:=by
   rw[HE.out]
   exact⟨none,0,rfl,aX _ _,HR.out,Aside.refl _ _⟩
  have HF:=xQ hfin
  clear hfin HE
  by_cases h0:a<0
  ·clear hx
   have hb0:decide (a<0)=true:=decide_eq_true h0
   go_enter Tryz.func55,Tryz.ntmps55
   go_wp2
   go_ret2
   exact HF.out
  ·have hb0:decide (a<0)=false:=decide_eq_false h0
   by_cases h1:(s.b.length:Int)<a
   ·clear hx
    go_enter Tryz.func55,Tryz.ntmps55
    go_wp2
    go_ret2
    exact HF.out
   ·have h2:n<0:=by omega
    have hb1:decide ((s.b.length:Int)<a)=false:=decide_eq_false h1
    clear hx
    go_enter Tryz.func55,Tryz.ntmps55
    go_wp2
    go_ret2
    exact HF.out
 ·obtain⟨i,rfl⟩:∃i:Nat,a=(i:Int):=⟨a.toNat,by omega⟩
  obtain⟨m,rfl⟩:∃m:Nat,n=(m:Int):=⟨n.toNat,by omega⟩
  have hil:i<=s.b.length:=by omega
  obtain⟨L,hL⟩:∃L,L=(s.b.drop i).take m:=⟨_,rfl⟩
  have HE:Hid (Dv.read s i m=(L,0,{ s with told:=s.told+L.length })):=by show _=_;unfold Dv.read;rw[if_neg hx,hL];rfl
  have hLl:L.length=min m (s.b.length-i):=by rw[hL,List.length_take,List.length_drop]
  have hb0:decide ((i:Int)<0)=false:=decide_eq_false (by omega)
  have hb1:decide (s.b.length<i)=false:=decide_eq_false (by omega)
  have hb3:decide ((m:Int)<0)=false:=decide_eq_false (by omega)
  have hg:=h.lt
  clear hx
  have c3:w.cell? ⟨g,3,none⟩=some (.int .i64 s.told):=h.cell 3
  have HEnd:Hid (∀w1 q c1,Has w1 w.1.size (.slice q L.length c1) L->Below w.1.size w w1->w1.cell? ⟨g,3,none⟩=some (.int .i64 s.told)∧w1.frozen? ⟨g,3,none⟩=false∧∃q' cap',Ending.returned (.tuple #[.slice q L.length c1,.int .i64 0])=.returned (.tuple #[.slice q' (Dv.read s i m).1.length cap',.int .i64 ((Dv.read s i m).2.1:Nat)])∧Has (w1.setCell ⟨g,3,none⟩ (.int .i64 ((s.told:Int)+(L.length:Int)))) w.1.size (.slice q' (Dv.read s i m).1.length cap') (Dv.read s i m).1∧aS (w1.setCell ⟨g,3,none⟩ (.int .i64 ((s.told:Int)+(L.length:Int)))) B g (.slice p s.b.length cap) (Dv.read s i m).2.2 x k∧Aside (fun k=>k=g) w (w1.setCell ⟨g,3,none⟩ (.int .i64 ((s.told:Int)+(L.length:Int))))):=by
   intro w1 q c1 hu hb
   have hK:=HR.out.below hb
   refine⟨hK.cell 3,hK.thawed 3,q,c1,?_,?_,?_,?_⟩
   ·rw[HE.out];rfl
   ·rw[HE.out]
    exact hu.aside ((Aside.refl (·=g) w1).setCell (p:=⟨g,3,none⟩) (.inl rfl) _) (fun j hj hc=>by have:=(hu.lt j hj).1;omega)
   ·rw[HE.out]
    exact hK.put 3 _ (by simp[bE]) rfl hK.due hK.left hK.keep
   ·exact(ag hb (fun k=>k=g)).setCell (p:=⟨g,3,none⟩) (.inl rfl) _
  have hlim:(s.told:Int)+(L.length:Int)<=9223372036854775807:=by omega
  obtain⟨r,hr⟩:∃r,r=s.b.length-i:=⟨_,rfl⟩
  have hw1:IntKind.i64.wrap ((s.b.length:Int)-(i:Int))=(r:Int):=by rw[IntKind.wrap_i64];omega
  rcases h.has.form with ⟨hv0,hn0⟩ | ⟨g2,cap2,hv,hm⟩
  ·have hi0:i=0:=by rw[hn0] at hil;simpa using hil
   have hL0:L=[]:=by rw[hL,hn0];simp
   injection hv0 with e1 e2 e3
   subst e1 e3 hi0 hL0
   have HC:=xQ (fun w'=>oD none 0 [] (by simp) w' (.inl rfl))
   rw[e2] at c0 hb1
   clear h hA hr hw1 hL hLl hlim
   by_cases hm0:0<m
   ·have hm1:(0:Int)<(m:Int):=by omega
    go_enter Tryz.func55,Tryz.ntmps55
    go_wp2_with fail
    go_region_with (go_at_call 86;refine(HC.out _).mono ?_;rintro e w1 ⟨q1,c1,rfl,hu,hb⟩;obtain⟨d3,f3,hend⟩:=HEnd.out w1 q1 c1 (by exact hu) ((Below.refl w.1.size w).drew.trans hb);have HF:=xQ hend;clear hu hb hend)
    all_goals
     go_wp2
     go_ret2
     exact HF.out
   ·have hm1:m=0:=by omega
    subst hm1
    go_enter Tryz.func55,Tryz.ntmps55
    go_wp2_with fail
    go_region_with (go_at_call 86;refine(HC.out _).mono ?_;rintro e w1 ⟨q1,c1,rfl,hu,hb⟩;obtain⟨d3,f3,hend⟩:=HEnd.out w1 q1 c1 (by exact hu) ((Below.refl w.1.size w).drew.trans hb);have HF:=xQ hend;clear hu hb hend)
    all_goals
     go_wp2
     go_ret2
     exact HF.out
  ·injection hv with e1 _ e2
   subst e1 e2
   obtain⟨t,ht0⟩:∃t,t=L.length:=⟨_,rfl⟩
   obtain⟨e0,he0⟩:∃e0,e0=i+t:=⟨_,rfl⟩
   have hte:e0-i=t:=by omega
   have hie:i<=e0:=by omega
   have hec:e0<=cap:=by omega
   have hw2:IntKind.i64.wrap ((i:Int)+(t:Int))=(e0:Int):=by rw[IntKind.wrap_i64];omega
   have HC:Hid (∀w',w'.1=w.1->Calls Tryz.prog 86 #[.slice (if cap=i then some ⟨g2,0,none⟩ else some ⟨g2,i,none⟩) t (cap-i)] w' fun e' w''=>∃q c',e'=.returned (.slice q t c')∧Has w'' w'.1.size (.slice q t c') L∧Below w'.1.size w' w''):=by
    intro w' hw'
    have hAt:At w' (if cap=i then some ⟨g2,0,none⟩ else some ⟨g2,i,none⟩) L:=by
     by_cases hL0:L=[]
     ·exact .inl hL0
     ·have hpos:=List.length_pos_iff.2 hL0
      rw[if_neg (by omega)]
      refine .inr ⟨g2,i,rfl,?_,?_⟩
      ·rw[hw'];exact hm.base.2.1
      ·have h3:=dw (dx hm.free.2.1 i) m
       rw[<-hL,Nat.zero_add] at h3
       intro j hj
       rw[World.cell?_of_block (w:=w) (by rw[hw'])]
       exact h3 j hj
    have:=oD _ (cap-i) L (by omega) w' hAt
    rw[<-ht0] at this
    exact this
   obtain⟨pa,hpa⟩:∃pa,(if cap=i then some (⟨g2,0,none⟩:Addr) else some ⟨g2,i,none⟩)=pa:=⟨_,rfl⟩
   rw[hpa] at HC
   clear h hA
   rw[<-ht0] at HEnd hlim
   by_cases hlt:r<m
   ·have hrt:r=t:=by omega
    subst hrt
    clear hr hL he0 ht0 hLl
    go_enter Tryz.func55,Tryz.ntmps55
    go_wp2_with fail
    go_region_with (go_at_call 86;refine(HC.out _ (by rfl)).mono ?_;rintro e w1 ⟨q1,c1,rfl,hu,hb⟩;obtain⟨d3,f3,hend⟩:=HEnd.out w1 q1 c1 (by exact hu) ((Below.refl w.1.size w).drew.trans hb);have HF:=xQ hend;clear hu hb hend)
    all_goals
     go_wp2
     go_ret2
     exact HF.out
   ·have hrt:m=t:=by omega
    subst hrt
    clear hr hL he0 ht0 hLl
    go_enter Tryz.func55,Tryz.ntmps55
    go_wp2_with fail
    go_region_with (go_at_call 86;refine(HC.out _ (by rfl)).mono ?_;rintro e w1 ⟨q1,c1,rfl,hu,hb⟩;obtain⟨d3,f3,hend⟩:=HEnd.out w1 q1 c1 (by exact hu) ((Below.refl w.1.size w).drew.trans hb);have HF:=xQ hend;clear hu hb hend)
    all_goals
     go_wp2
     go_ret2
     exact HF.out
end
end
section
open Go.RowKit
theorem iY(es fs:List Ent)(i:Nat)(h1:i<es.length)(h2:i<fs.length)(h:(es.take i).map Ent.tup=(fs.take i).map Ent.tup)(he:es[i].tup=fs[i].tup):(es.take (i+1)).map Ent.tup=(fs.take (i+1)).map Ent.tup:=by
 rw[List.take_succ_eq_append_getElem h1,List.take_succ_eq_append_getElem h2,List.map_append,List.map_append,h]
 simp[he]
theorem tJ(p q:OA)(c d:Nat)(es fs:List Ent)(hl:es.length*24<=140737488351232)(w:World)(h1:kP w p es)(h2:kP w q fs):
  Calls Tryz.prog 62 #[.slice p es.length c,.slice q fs.length d] w fun e w'=>e=.returned (.bool (decide (es.map Ent.tup=fs.map Ent.tup)))∧∃n,w'=w.drewN n:=by
 obtain⟨R,hR⟩:∃R,R=decide (es.map Ent.tup=fs.map Ent.tup):=⟨_,rfl⟩
 rw[<-hR]
 have HR:=xQ hR
 have H1:=xQ h1
 have H2:=xQ h2
 clear hR h1 h2
 by_cases hlen:es.length=fs.length
 ·have g0:((es.length:Int) != (fs.length:Int))=false:=by rw[bne_eq_false_iff_eq];omega
  have HL:=xQ hlen
  obtain⟨m,hm⟩:∃m,m=fs.length:=⟨_,rfl⟩
  rw[<-hm] at g0 ⊢
  have hm2:m=es.length:=by omega
  subst hm2
  clear hm g0 hlen
  go_enter Tryz.func62,Tryz.ntmps62
  go_wp2
  go_loopw [13] (fun v13 wr=>∃i n:Nat,i<=es.length∧v13=.int .i64 i∧wr=w.drewN n∧Hid ((es.take i).map Ent.tup=(fs.take i).map Ent.tup)) (fun v13 _=>es.length-(intOf v13).toNat)
  case atStart=>exact⟨0,0,by omega,rfl,rfl,rfl⟩
  case round=>
   obtain⟨i,n,hi,rfl,rfl,HT⟩:=hrel
   by_cases hlt:i<es.length
   ·have hlt':(i:Int)<(es.length:Int):=by omega
    have hlt2:i<fs.length:=by have:=HL.out;omega
    obtain⟨b1,o1,hp,-,x0,x1,x2⟩:=H1.out i hlt
    obtain⟨b2,o2,hq,-,y0,y1,y2⟩:=H2.out i hlt2
    subst hp hq
    by_cases he:es[i].tup=fs[i].tup
    ·have HT2:=xQ (iY es fs i hlt hlt2 HT.out he)
     simp only[Ent.tup,Prod.mk.injEq] at he
     obtain⟨e1,e2,e3⟩:=he
     rw[<-e1] at y0
     rw[<-e2] at y1
     rw[<-e3] at y2
     generalize es[i].at_=a at x0 y0
     generalize es[i].row=b at x1 y1
     generalize es[i].sch=c' at x2 y2
     clear e1 e2 e3 HT
     go_wp2
     go_quiet (fail)
     go_wp2
     go_roundw
     case rel=>exact⟨i+1,_,by omega,by go_num,rfl,HT2⟩
     case measure=>simp[intOf];omega
    ·have HF:Hid (R=false):=by
      show _=_
      rw[HR.out,decide_eq_false]
      intro hc
      have h5:=ee hc
      subst h5
      exact he rfl
     have hne:(¬es[i].at_=fs[i].at_)∨(es[i].at_=fs[i].at_∧¬es[i].row=fs[i].row)∨(es[i].at_=fs[i].at_∧es[i].row=fs[i].row∧¬es[i].sch=fs[i].sch):=by
      by_cases h1:es[i].at_=fs[i].at_
      ·by_cases h2:es[i].row=fs[i].row
       ·by_cases h3:es[i].sch=fs[i].sch
        ·exact absurd (by simp only[Ent.tup,h1,h2,h3]) he
        ·exact .inr (.inr ⟨h1,h2,h3⟩)
       ·exact .inr (.inl ⟨h1,h2⟩)
      ·exact .inl h1
     generalize es[i].at_=a at x0 hne
     generalize es[i].row=b at x1 hne
     generalize es[i].sch=c' at x2 hne
     generalize fs[i].at_=a2 at y0 hne
     generalize fs[i].row=b2' at y1 hne
     generalize fs[i].sch=c2' at y2 hne
     clear he HT
     rcases hne with h1 | ⟨rfl,h1⟩ | ⟨rfl,rfl,h1⟩
     all_goals
      have g1:=bv h1
      clear h1
      go_wp2
      go_quiet (fail)
      go_wp2
      go_ret
      exact⟨by rw[HF.out];rfl,_,World.drewN_drewN ..⟩
   ·have hii:i=es.length:=by omega
    subst hii
    have HF:Hid (R=true):=by
     show _=_
     rw[HR.out,decide_eq_true_iff]
     have:=HT.out
     rw[List.take_length,HL.out,List.take_length] at this
     exact this
    clear HT
    go_wp2
    go_ret
    exact⟨by rw[HF.out];rfl,n,rfl⟩
 ·have g0:((es.length:Int) != (fs.length:Int))=true:=by rw[bne_iff_ne];omega
  have HF:Hid (R=false):=by
   show _=_
   rw[HR.out,decide_eq_false]
   intro hc
   have:=congrArg List.length hc
   simp at this
   exact hlen this
  clear hlen
  go_enter Tryz.func62,Tryz.ntmps62
  go_wp2
  go_ret
  exact⟨by rw[HF.out];rfl,0,rfl⟩
end
end Go.Proofs.YtceomhodhmcknaaGreatDoor
