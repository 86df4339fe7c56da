import Derived.Test.YtlgfdgdlaahpfaaGreatDoorB29
import Derived.Deep.RegionHeld3
set_option maxRecDepth 100000
set_option maxHeartbeats 1000000
namespace Go.Proofs.YtlgfdgdlaahpfaaGreatDoor
section
open Go.RowKit
def aF(v:Value)(s:Dv.St)(x k:Nat)(f:Value):AV:=#[v,.int .i64 s.most,.int .i64 s.safe,.int .i64 s.told,.int .i64 s.done,.bool s.down,.bool s.bound,.int .i64 x,.int .i64 k,f]
structure aE(w:World)(B g:Nat)(v:Value)(s:Dv.St)(x k:Nat):Prop where
 lies:w.1[g]?=some (.cells (aF v s x k .nilFunc) 101)
 has:Has w B v s.b
 base:B<=g
 due:s.bound=true->x=s.after∧k=s.keep
 left:x<9223372036854775808
 keep:k<9223372036854775808
theorem aE.lt{w:World}{B g:Nat}{v:Value}{s:Dv.St}{x k:Nat}(h:aE w B g v s x k):g<w.1.size:=(Array.getElem?_eq_some_iff.1 h.lies).1
theorem ed{w:World}{g:Nat}{v:Value}{s:Dv.St}{x k:Nat}{f:Value}(h:w.1[g]?=some (.cells (aF v s x k f) 101))(i:Nat):w.cell? ⟨g,i,none⟩=(aF v s x k f)[i]?:=by
 unfold World.cell?
 rw[h]
 rfl
theorem jE{w:World}{g:Nat}{v:Value}{s:Dv.St}{x k:Nat}{f:Value}(h:w.1[g]?=some (.cells (aF v s x k f) 101))(i:Nat):w.frozen? ⟨g,i,none⟩=false:=by
 simp[World.frozen?,h]
theorem fj{w:World}{g:Nat}{v v':Value}{s s':Dv.St}{x k x' k':Nat}{f f':Value}(h:w.1[g]?=some (.cells (aF v s x k f) 101))(i:Nat)(u:Value)(he:aF v' s' x' k' f'=(aF v s x k f).setIfInBounds i u):(w.setCell ⟨g,i,none⟩ u).1[g]?=some (.cells (aF v' s' x' k' f') 101):=by
 simp only[World.setCell,Array.getElem?_modify,h,if_true,Option.map_some]
 rw[if_neg (by simp),he]
theorem aE.cell{w:World}{B g:Nat}{v:Value}{s:Dv.St}{x k:Nat}(h:aE w B g v s x k)(i:Nat):w.cell? ⟨g,i,none⟩=(aF v s x k .nilFunc)[i]?:=ed h.lies i
theorem aE.thawed{w:World}{B g:Nat}{v:Value}{s:Dv.St}{x k:Nat}(h:aE w B g v s x k)(i:Nat):w.frozen? ⟨g,i,none⟩=false:=jE h.lies i
theorem du{w:World}{B g:Nat}{v:Value}{l:L8}(h:Has w B v l){C:AV}{T:TypeId}(hg:w.1[g]?=some (.cells C T))(hT:T≠5):v.ownBlock≠some g:=by
 intro hc
 rcases h.2 with ⟨h1,_⟩ | ⟨g',cap,cur,h1,_,h3,_⟩
 ·rw[h1] at hc;cases hc
 ·rw[h1] at hc
  simp only[Value.ownBlock,Option.some.injEq] at hc
  subst hc
  rw[h3] at hg
  injection hg with h4
  injection h4 with _ h5
  exact hT h5.symm
theorem aE.apart{w:World}{B g:Nat}{v:Value}{s:Dv.St}{x k:Nat}(h:aE w B g v s x k):v.ownBlock≠some g:=du h.has h.lies (by decide)
theorem aE.put{w:World}{B g:Nat}{v:Value}{s s':Dv.St}{x k x' k':Nat}(h:aE w B g v s x k)(i:Nat)(u:Value)(he:aF v s' x' k' .nilFunc=(aF v s x k .nilFunc).setIfInBounds i u)(hb:s'.b=s.b)(hd:s'.bound=true->x'=s'.after∧k'=s'.keep)(hx:x'<9223372036854775808)(hk:k'<9223372036854775808):aE (w.setCell ⟨g,i,none⟩ u) B g v s' x' k':=by
 have ha:Aside (·=g) w (w.setCell ⟨g,i,none⟩ u):=(Aside.refl (·=g) w).setCell (p:=⟨g,i,none⟩) (.inl rfl) u
 refine⟨fj h.lies i u he,?_,h.base,hd,hx,hk⟩
 rw[hb]
 exact h.has.aside ha (fun j hj hc=>h.apart (by rw[hj,hc]))
theorem aE.aside{w w':World}{B g:Nat}{v:Value}{s:Dv.St}{x k:Nat}{F:Nat->Prop}(h:aE w B g v s x k)(ha:Aside F w w')(hg:¬F g)(hv:∀k,v.ownBlock=some k->¬F k):aE w' B g v s x k :=
 ⟨by rw[ha.block g h.lt hg];exact h.lies,h.has.aside ha hv,h.base,h.due,h.left,h.keep⟩
theorem aE.below{w w':World}{B g:Nat}{v:Value}{s:Dv.St}{x k:Nat}(h:aE w B g v s x k)(hb:Below w.1.size w w'):aE w' B g v s x k :=
 h.aside (F:=fun _=>False) (ae hb _) (fun h=>h) (fun _ _ h=>h)
def gk(w:World)(B g:Nat)(v:Value)(r:Nat×Dv.St)(e:Ending)(w':World):Prop :=
 e=.returned (.int .i64 (r.1:Nat))∧∃v' x' k',aE w' B g v' r.2 x' k'∧Aside (fun i=>i=g∨v.ownBlock=some i) w w'∧∀i,v'.ownBlock=some i->v.ownBlock=some i∨w.1.size<=i
section
variable {B g:Nat} {v:Value} {s:Dv.St} {x k:Nat} {w:World}
theorem tK(h:aE w B g v s x k):Calls Tryz.prog 78 #[.pointer (some ⟨g,0,none⟩)] w fun e w'=>e=.returned (.int .i64 (s.b.length:Nat))∧w'=w:=by
 have c0:w.cell? ⟨g,0,none⟩=some v:=h.cell 0
 obtain⟨p,cap,hv,-,-⟩:=h.has.at
 subst hv
 clear h
 go_enter Tryz.func78,Tryz.ntmps78
 go_wp2
 go_ret
 exact⟨rfl,rfl⟩
theorem kUp(h:aE w B g v s x k):Calls Tryz.prog 77 #[.pointer (some ⟨g,0,none⟩)] w fun e w'=>e=.returned (.bool (!s.down))∧w'=w:=by
 have c0:w.cell? ⟨g,5,none⟩=some (.bool s.down):=h.cell 5
 clear h
 go_enter Tryz.func77,Tryz.ntmps77
 go_wp2
 go_ret
 exact⟨rfl,rfl⟩
end
end
section
open Go.RowKit
theorem fl{P : Program}{f : FuncId}{fn : Func}{c : Code}(hf : P.funcs[f]?=some fn)(hname : (fn.name== "runtime.NumGoroutine")=false)(hb : fn.body=some c)(args : AV)(w : World):
  (callFunc f args).run P w=.ok (.enter f args) w:=by
 have h1 : fn.name≠ "runtime.NumGoroutine" := by simpa using hname
 simp[callFunc,hf,h1,hb]
theorem Has.cut{w:World}{B n cap m:Nat}{q:OA}{l:L8}(h:Has w B (.slice q m cap) l)(hn:n<=l.length):Has w B (.slice q n cap) (l.take n):=by
 have el:(l.take n).length=n:=by rw[List.length_take];omega
 unfold Has World.ownsRow
 rw[el]
 refine⟨by rw[aK,el,Nat.mul_one],?_⟩
 rcases h.2 with ⟨h1,h0⟩ | ⟨g',cap',cur,h1,h2,h3,h4,h5,h6,h7⟩
 ·have:n=0:=by omega
  subst this
  cases h1
  exact .inl ⟨rfl,rfl⟩
 ·cases h1
  refine .inr ⟨g',cap,cur,rfl,h2,h3,by omega,h5,h6,?_⟩
  have:cur.toList.take (n*1)=(cur.toList.take (l.length*1)).take (n*1):=by rw[List.take_take,Nat.min_eq_left (by omega)]
  rw[this,h7]
  simp[cellsOf,List.map_take]
theorem aP(P:Program)(w:World)(a:Addr)(m:Mode)(fn:Fn)(first captured:AV):(store a (.func fn first captured) m).run P w=stored P w a (.func fn first captured) m:=run_store P w a _ m rfl
theorem aT(P:Program)(w:World)(a:Addr)(m:Mode):(store a .nilFunc m).run P w=stored P w a .nilFunc m:=run_store P w a _ m rfl
attribute [local go_sem] aP aT
theorem lH{w:World}{ops:Array Oper}{o:Oper}{a:Act}{K:Act->World->Prop}{Q:Exit->Act->World->Prop}{E:Prop}{f:FuncId}{env:AV}{u:Value}{R:Ending->World->Prop}(y x:Operand)(t:TypeId)(hg:o.guard=none)(hop:o.op=Op.call { callee:=.value y,args:=#[x],argTypes:=#[t] })(hy:a.eval y=.func (.func f) #[] env)(hx:a.eval x=u)(hE:∀(args:AV) (w:World),(callFunc f args).run Tryz.prog w=.ok (.enter f args) w)(hc:Calls Tryz.prog f (#[u]++env) w R)(hR:∀e w',R e w'->∃v,e=.returned v∧K (a.put o.dst v) w'):
  if Region.wanted o (yielded ops a.tmps)=true then Oper.wp Tryz.prog o a w K Q else E:=by
 have hw:Region.wanted o (yielded ops a.tmps)=true:=by simp[Region.wanted,hg]
 rw[if_pos hw]
 unfold Oper.wp
 have he:(execOp a.eval o).run Tryz.prog w=.ok (.enter f (#[u]++env)) w:=by
  simp[execOp,hop,resolve,invoke,hx,hy,Deferred.ofValue,hE]
 rw[he,Oper.upon_enter]
 refine hc.mono ?_
 intro e w' hr
 obtain⟨v,rfl,hk⟩:=hR e w' hr
 exact hk
theorem mS{B g:Nat}{v:Value}{s:Dv.St}{x k cap:Nat}{q:OA}{l:L8}{fv:Value}{w2:World}(hu:Has w2 B (.slice q l.length cap) l)(hl2:w2.1[g]?=some (.cells (aF v s x k fv) 101))(hB:B<=g)(hd:s.bound=true->x=s.after∧k=s.keep)(hx:x<9223372036854775808)(hk:k<9223372036854775808)(m:Nat)(hm:m=min s.safe l.length):
  Aside (·=g) w2 (((w2.setCell ⟨g,0,none⟩ (.slice q l.length cap)).setCell ⟨g,9,none⟩ .nilFunc).setCell ⟨g,2,none⟩ (.int .i64 (m:Int))).drew∧aE (((w2.setCell ⟨g,0,none⟩ (.slice q l.length cap)).setCell ⟨g,9,none⟩ .nilFunc).setCell ⟨g,2,none⟩ (.int .i64 (m:Int))).drew B g (.slice q l.length cap) { s with b:=l,safe:=min s.safe l.length } x k:=by
 have l3:(w2.setCell ⟨g,0,none⟩ (.slice q l.length cap)).1[g]?=some (.cells (aF (.slice q l.length cap) s x k fv) 101):=fj hl2 0 _ rfl
 have l4:((w2.setCell ⟨g,0,none⟩ (.slice q l.length cap)).setCell ⟨g,9,none⟩ .nilFunc).1[g]?=some (.cells (aF (.slice q l.length cap) s x k .nilFunc) 101):=fj l3 9 _ rfl
 have l5:(((w2.setCell ⟨g,0,none⟩ (.slice q l.length cap)).setCell ⟨g,9,none⟩ .nilFunc).setCell ⟨g,2,none⟩ (.int .i64 (m:Int))).drew.1[g]?=some (.cells (aF (.slice q l.length cap) { s with b:=l,safe:=min s.safe l.length } x k .nilFunc) 101):=by
  rw[<-hm]
  exact fj l4 2 _ rfl
 have ha:Aside (·=g) w2 (((w2.setCell ⟨g,0,none⟩ (.slice q l.length cap)).setCell ⟨g,9,none⟩ .nilFunc).setCell ⟨g,2,none⟩ (.int .i64 (m:Int))).drew:=((((Aside.refl (·=g) w2).setCell (p:=⟨g,0,none⟩) (.inl rfl) _).setCell (p:=⟨g,9,none⟩) (.inl rfl) _).setCell (p:=⟨g,2,none⟩) (.inl rfl) _).drew
 exact⟨ha,l5,hu.aside ha (fun j hj hc=>du hu hl2 (by decide) (by rw[hj,hc])),hB,hd,hx,hk⟩
section
variable {B g:Nat} {v:Value} {s:Dv.St} {x k:Nat} {w:World}
theorem eQ(f:FuncId)(env:AV)(Q:Value->L8->World->Prop)(h:aE w B g v s x k)(hE:∀(args:AV) (w:World),(callFunc f args).run Tryz.prog w=.ok (.enter f args) w)(hT:∀w',w'.1[g]?=some (.cells (aF v s x k (.func (.func f) #[] env)) 101)->Aside (·=g) w w'->Calls Tryz.prog f (#[v]++env) w' fun e w''=>∃u l,e=.returned u∧Has w'' B u l∧w''.1[g]?=some (.cells (aF v s x k (.func (.func f) #[] env)) 101)∧Q u l w''):
  Calls Tryz.prog 76 #[.pointer (some ⟨g,0,none⟩),.func (.func f) #[] env] w fun e w3=>e=.returned (.tuple #[])∧∃u l w'',Q u l w''∧Aside (·=g) w'' w3∧aE w3 B g u { s with b:=l,safe:=min s.safe l.length } x k:=by
 have c9:w.cell? ⟨g,9,none⟩=some .nilFunc:=h.cell 9
 have f9:=h.thawed 9
 have HR:=vQ h
 have l1:(w.setCell ⟨g,9,none⟩ (.func (.func f) #[] env)).1[g]?=some (.cells (aF v s x k (.func (.func f) #[] env)) 101):=fj h.lies 9 _ rfl
 have d0:(w.setCell ⟨g,9,none⟩ (.func (.func f) #[] env)).cell? ⟨g,0,none⟩=some v:=ed l1 0
 have d9:(w.setCell ⟨g,9,none⟩ (.func (.func f) #[] env)).cell? ⟨g,9,none⟩=some (.func (.func f) #[] env):=ed l1 9
 have HT:=vQ (hT (w.setCell ⟨g,9,none⟩ (.func (.func f) #[] env)).drew l1 (((Aside.refl (·=g) w).setCell (p:=⟨g,9,none⟩) (.inl rfl) _).drew))
 have HE:=vQ hE
 clear hT h l1 hE
 go_enter Tryz.func76,Tryz.ntmps76
 go_wp2_with fail
 go_region_law (refine lH (.tmp 12) (.tmp 16) 31 (by rfl) (by rfl) (by rfl) (by rfl) HE.out HT.out ?_;rintro e w2 ⟨u,l,rfl,hu,hl2,hQ⟩;refine⟨_,rfl,?_⟩;obtain⟨q,cap,hvu,-,-⟩:=hu.at;subst hvu;have c0:w2.cell? ⟨g,0,none⟩=some v:=ed hl2 0;have f0:=jE hl2 0;have HU:=vQ hu;have HL2:=vQ hl2;have HQ:=vQ hQ;clear hu hl2 hQ)
 all_goals
  have f9':=jE HL2.out 9
  have f2:=jE HL2.out 2
  have e2:w2.cell? ⟨g,2,none⟩=some (.int .i64 s.safe):=ed HL2.out 2
  have e99:w2.cell? ⟨g,9,none⟩=some (.func (.func f) #[] env):=ed HL2.out 9
  have HEn:=vQ (mS HU.out HL2.out HR.out.base HR.out.due HR.out.left HR.out.keep)
  by_cases hlt:l.length<s.safe
  ·have hlt1:(l.length:Int)<(s.safe:Int):=by omega
   have HM:Hid (l.length=min s.safe l.length):=by show _=_;omega
   clear HT HU HL2 HR
   go_wp2
   go_region_law (fail)
   all_goals
    go_wp2
    go_end0
    exact⟨rfl,_,l,w2,HQ.out,HEn.out _ HM.out⟩
  ·have HM:Hid (s.safe=min s.safe l.length):=by show _=_;omega
   have hlt1:¬(l.length:Int)<(s.safe:Int):=by omega
   clear HT HU HL2 HR
   go_wp2
   go_region_law (fail)
   all_goals
    go_wp2
    go_end0
    exact⟨rfl,_,l,w2,HQ.out,HEn.out _ HM.out⟩
end
end
section
open Go.RowKit
attribute [local go_sem] aP aT
theorem fq{w:World}{b:Nat}{v:Value}{T:TypeId}(h:w.1[b]?=some (.cells #[v] T)):w.cell? ⟨b,0,none⟩=some v:=by
 simp[World.cell?,h]
theorem ry{w:World}{b:Nat}{v:Value}{T:TypeId}(h:w.1[b]?=some (.cells #[v] T)):w.frozen? ⟨b,0,none⟩=false:=by
 simp[World.frozen?,h]
theorem dP{w:World}{b:Nat}{o:Obj}(h:w.1[b]?=some o):b<w.1.size:=(Array.getElem?_eq_some_iff.1 h).1
abbrev uV(f:FuncId)(env:AV)(w:World)(B g:Nat)(v:Value)(s:Dv.St)(k:Nat)(Q:Value->L8->World->Prop):Prop :=
 ∀w' x',w'.1[g]?=some (.cells (aF v s x' k (.func (.func f) #[] env)) 101)->Aside (·=g) w w'->Calls Tryz.prog f (#[v]++env) w' fun e w''=>∃u l,e=.returned u∧Has w'' B u l∧w''.1[g]?=some (.cells (aF v s x' k (.func (.func f) #[] env)) 101)∧Q u l w''
section
variable {B g:Nat} {v:Value} {s:Dv.St} {x k:Nat} {w:World}
theorem tJ{q:OA}{cap bx:Nat}{fv:Value}(hl:w.1[g]?=some (.cells (aF (.slice q s.b.length cap) s x k fv) 101))(hb:w.1[bx]?=some (.cells #[.pointer (some ⟨g,0,none⟩)] 53))(hs:s.safe<=s.b.length)(hlen:s.b.length<=2097152)(hcap:s.b.length<=cap)(hk:k<9223372036854775808)(n:Nat)(hn:n=s.safe+min k (s.b.length-s.safe)):
  Calls Tryz.prog 111 #[.slice q s.b.length cap,.pointer (some ⟨bx,0,none⟩)] w fun e w'=>e=.returned (.slice q n cap)∧∃m,w'=w.drewN m:=by
 have c2:w.cell? ⟨g,2,none⟩=some (.int .i64 s.safe):=ed hl 2
 have c8:w.cell? ⟨g,8,none⟩=some (.int .i64 k):=ed hl 8
 have cb:=fq hb
 clear hl hb
 by_cases hlt:s.b.length-s.safe<k
 ·have hlt1:(s.b.length:Int)-(s.safe:Int)<(k:Int):=by omega
  have HM:Hid (n=s.safe+(s.b.length-s.safe)):=by show _=_;omega
  rw[HM.out]
  clear hn
  go_enter Tryz.func111,Tryz.ntmps111
  go_wp2
  go_quiet (fail)
  go_wp2
  go_ret
  exact⟨rfl,_,rfl⟩
 ·have hlt1:¬(s.b.length:Int)-(s.safe:Int)<(k:Int):=by omega
  have HM:Hid (n=s.safe+k):=by show _=_;omega
  have hkl:s.safe+k<=s.b.length:=by omega
  rw[HM.out]
  clear hn
  go_enter Tryz.func111,Tryz.ntmps111
  go_wp2
  go_quiet (fail)
  go_wp2
  go_ret
  exact⟨rfl,_,rfl⟩
theorem mK(hs:s.safe<=s.b.length)(hk:k=s.keep):(Dv.fails s).b=s.b.take (s.safe+min k (s.b.length-s.safe)):=by
 subst hk
 unfold Dv.fails
 simp only
 split
 ·rw[Nat.min_eq_left (by omega)]
 ·rw[List.take_of_length_le (by omega)]
theorem oc{q:OA}{cap n:Nat}{w3:World}(ha:Aside (·=g) w w3)(h:aE w3 B g (.slice q n cap) { s with b:=s.b.take n,safe:=s.safe } x k)(hF:(Dv.fails s).b=s.b.take n):
  ∃v',aE ((((w3.setCell ⟨g,5,none⟩ (.bool true)).setCell ⟨g,6,none⟩ (.bool false)).setCell ⟨g,7,none⟩ (.int .i64 0)).setCell ⟨g,8,none⟩ (.int .i64 0)).drew B g v' (Dv.fails s) 0 0∧Aside (fun i=>i=g) w ((((w3.setCell ⟨g,5,none⟩ (.bool true)).setCell ⟨g,6,none⟩ (.bool false)).setCell ⟨g,7,none⟩ (.int .i64 0)).setCell ⟨g,8,none⟩ (.int .i64 0)).drew∧v'.ownBlock=(Value.slice q s.b.length cap).ownBlock:=by
 have l1:(w3.setCell ⟨g,5,none⟩ (.bool true)).1[g]?=some (.cells (aF (.slice q n cap) { s with down:=true } x k .nilFunc) 101):=fj h.lies 5 _ rfl
 have l2:((w3.setCell ⟨g,5,none⟩ (.bool true)).setCell ⟨g,6,none⟩ (.bool false)).1[g]?=some (.cells (aF (.slice q n cap) { s with down:=true,bound:=false } x k .nilFunc) 101):=fj l1 6 _ rfl
 have l3:(((w3.setCell ⟨g,5,none⟩ (.bool true)).setCell ⟨g,6,none⟩ (.bool false)).setCell ⟨g,7,none⟩ (.int .i64 0)).1[g]?=some (.cells (aF (.slice q n cap) { s with down:=true,bound:=false } 0 k .nilFunc) 101):=fj l2 7 _ rfl
 have l4:((((w3.setCell ⟨g,5,none⟩ (.bool true)).setCell ⟨g,6,none⟩ (.bool false)).setCell ⟨g,7,none⟩ (.int .i64 0)).setCell ⟨g,8,none⟩ (.int .i64 0)).1[g]?=some (.cells (aF (.slice q n cap) (Dv.fails s) 0 0 .nilFunc) 101):=fj l3 8 _ rfl
 have ha3:Aside (fun i=>i=g) w3 ((((w3.setCell ⟨g,5,none⟩ (.bool true)).setCell ⟨g,6,none⟩ (.bool false)).setCell ⟨g,7,none⟩ (.int .i64 0)).setCell ⟨g,8,none⟩ (.int .i64 0)).drew :=
  (((((Aside.refl (fun i=>i=g) w3).setCell (p:=⟨g,5,none⟩) (.inl rfl) _).setCell (p:=⟨g,6,none⟩) (.inl rfl) _).setCell (p:=⟨g,7,none⟩) (.inl rfl) _).setCell (p:=⟨g,8,none⟩) (.inl rfl) _).drew
 refine⟨.slice q n cap,⟨l4,?_,h.base,fun hc=>by simp[Dv.fails] at hc,by omega,by omega⟩,ha.trans ha3 (fun _ _ h=>h),by cases q <;> rfl⟩
 rw[hF]
 exact h.has.aside ha3 (fun j hj hc=>h.apart (by rw[hj,hc]))
theorem tH(h:aE w B g v s x k)(hs:s.safe<=s.b.length)(hlen:s.b.length<=2097152)(hk:k=s.keep):
  Calls Tryz.prog 75 #[.pointer (some ⟨g,0,none⟩)] w fun e w'=>e=.returned (.tuple #[])∧∃v',aE w' B g v' (Dv.fails s) 0 0∧Aside (·=g) w w'∧v'.ownBlock=v.ownBlock:=by
 obtain⟨q,cap,hv,-,hcap⟩:=h.has.at
 subst hv
 obtain⟨n,hn⟩:∃n,n=s.safe+min k (s.b.length-s.safe):=⟨_,rfl⟩
 have hnl:n<=s.b.length:=by omega
 have hsn:s.safe<=n:=by omega
 have HF:Hid ((Dv.fails s).b=s.b.take n):=by show _=_;rw[hn];exact mK hs hk
 have hg:=h.lt
 have hK1:aE (w.alloc (.cells #[.pointer (some ⟨g,0,none⟩)] 53)) B g (.slice q s.b.length cap) s x k:=h.below vY
 have hbx:=bK w (.cells #[.pointer (some ⟨g,0,none⟩)] 53)
 have HC:=vQ (eQ 111 #[.pointer (some ⟨w.1.size,0,none⟩)] (fun u l w''=>u=.slice q n cap∧l=s.b.take n∧Aside (·=g) (w.alloc (.cells #[.pointer (some ⟨g,0,none⟩)] 53)) w'') hK1 (fun args w=>fl Tryz.func111 (by kernel_rfl) rfl args w) (fun w' hl' ha'=>by
  have hb':w'.1[w.1.size]?=some (.cells #[.pointer (some ⟨g,0,none⟩)] 53):=by rw[ha'.block _ (dP hbx) (by omega)];exact hbx
  refine(tJ hl' hb' hs hlen hcap h.keep n hn).mono ?_
  rintro e w'' ⟨rfl,m,rfl⟩
  exact⟨_,s.b.take n,rfl,((hK1.has.aside ha' (fun j hj hc=>hK1.apart (by rw[hj,hc]))).drewN m).cut hnl,hl',rfl,rfl,ha'.drewN m⟩))
 have HR:=vQ h
 have HBx:=vQ hbx
 have HS:Hid (min s.safe (s.b.take n).length=s.safe):=by show _=_;rw[List.length_take];omega
 clear h hK1 hbx hn
 go_enter Tryz.func75,Tryz.ntmps75
 go_wp2_with fail
 refine HC.out.mono ?_
 rintro e w3 ⟨rfl,u,l,w2,⟨rfl,rfl,ha2⟩,ha3,hK3⟩
 rw[HS.out] at hK3
 have ha13:=ha2.trans ha3 (fun _ _ h=>h)
 have hb3:w3.1[w.1.size]?=some (.cells #[.pointer (some ⟨g,0,none⟩)] 53):=by rw[ha13.block _ (dP HBx.out) (by omega)];exact HBx.out
 have cb:=fq hb3
 have c5:w3.cell? ⟨g,5,none⟩=some (.bool s.down):=hK3.cell 5
 have c6:w3.cell? ⟨g,6,none⟩=some (.bool s.bound):=hK3.cell 6
 have c7:w3.cell? ⟨g,7,none⟩=some (.int .i64 x):=hK3.cell 7
 have c8:w3.cell? ⟨g,8,none⟩=some (.int .i64 k):=hK3.cell 8
 have f5:=hK3.thawed 5
 have f6:=hK3.thawed 6
 have f7:=hK3.thawed 7
 have f8:=hK3.thawed 8
 have HA3:Hid (Aside (·=g) w w3):=((Aside.refl (·=g) w).alloc _).trans ha13 (fun _ _ h=>h)
 have HEnd:=vQ (oc HA3.out hK3 HF.out)
 have hne:w.1.size≠g:=by omega
 clear ha2 ha3 hK3 ha13 hb3 HC HBx
 go_wp2
 go_region_law (fail)
 all_goals
  go_wp2
  go_end0
  exact⟨rfl,HEnd.out⟩
theorem mO(fv:Value)(h:aE w B g v s x k)(hm:Dv.may s=false)(hs:s.safe<=s.b.length)(hlen:s.b.length<=2097152):
  Calls Tryz.prog 55 #[.pointer (some ⟨g,0,none⟩),fv] w fun e w'=>e=.returned (.int .i64 51)∧∃v',aE w' B g v' (Dv.fails s) 0 0∧Aside (·=g) w w'∧v'.ownBlock=v.ownBlock:=by
 have hbd:s.bound=true:=by
  cases hb:s.bound with
  |true=>rfl
  |false=>simp[Dv.may,hb] at hm
 have haft:s.after=0:=by simpa[Dv.may,hbd] using hm
 have c6:w.cell? ⟨g,6,none⟩=some (.bool true):=by rw[<-hbd];exact h.cell 6
 have c7:w.cell? ⟨g,7,none⟩=some (.int .i64 0):=by have:=h.cell 7;rw[this];simp[aF,(h.due hbd).1,haft]
 have HP:=vQ (tH h hs hlen (h.due hbd).2)
 clear h hm hbd haft
 go_enter Tryz.func55,Tryz.ntmps55
 go_wp2_with fail
 refine HP.out.mono ?_
 rintro e w1 ⟨rfl,hP⟩
 have HP1:=vQ hP
 clear hP
 go_wp2
 go_ret
 exact⟨rfl,HP1.out⟩
theorem rb(f:FuncId)(env:AV)(Q:Value->L8->World->Prop)(h:aE w B g v s x k)(hm:Dv.may s=true)(hd:s.done<4611686018427387904)(hE:∀(args:AV) (w:World),(callFunc f args).run Tryz.prog w=.ok (.enter f args) w)(hT:uV f env w B g v s k Q):
  Calls Tryz.prog 55 #[.pointer (some ⟨g,0,none⟩),.func (.func f) #[] env] w fun e w3=>e=.returned (.int .i64 0)∧∃u l w'' x',Q u l w''∧Aside (·=g) w'' w3∧aE w3 B g u { Dv.did s with b:=l,safe:=min s.safe l.length } x' k:=by
 have c6:w.cell? ⟨g,6,none⟩=some (.bool s.bound):=h.cell 6
 have c7:w.cell? ⟨g,7,none⟩=some (.int .i64 x):=h.cell 7
 have f7:=h.thawed 7
 have hx:=h.left
 cases hbd:s.bound with
 |false=>
  rw[hbd] at c6
  have HC:=vQ (eQ f env Q h hE (fun w' hl ha=>hT w' x hl ha))
  have HB:=vQ hbd
  clear h hT hE hbd
  go_enter Tryz.func55,Tryz.ntmps55
  go_wp2_with fail
  refine HC.out.mono ?_
  rintro e w3 ⟨rfl,u,l,w2,hq,ha,hK⟩
  have c4:w3.cell? ⟨g,4,none⟩=some (.int .i64 s.done):=hK.cell 4
  have f4:=hK.thawed 4
  have HK:Hid (aE (w3.setCell ⟨g,4,none⟩ (.int .i64 ((s.done:Int)+1))) B g u { Dv.did s with b:=l,safe:=min s.safe l.length } x k):=hK.put 4 _ (by simp[aF,Dv.did]) rfl (fun hc=>by simp[Dv.did,HB.out] at hc) hK.left hK.keep
  have HA:=vQ (ha.setCell (p:=⟨g,4,none⟩) (.inl rfl) (.int .i64 ((s.done:Int)+1)))
  have HQ:=vQ hq
  clear hq ha hK HC
  go_wp2
  go_ret
  exact⟨rfl,u,l,w2,x,HQ.out,HA.out,HK.out⟩
 |true=>
  have hpos:0<s.after:=by simpa[Dv.may,hbd] using hm
  have hx0:x=s.after:=(h.due hbd).1
  have hxp:0<x:=by omega
  have hpos1:(0:Int)<(x:Int):=by omega
  have hz:((x:Int)==0)=false:=by simp;omega
  have h1:aE (w.setCell ⟨g,7,none⟩ (.int .i64 ((x:Int)-1))) B g v { s with after:=s.after-1 } (x-1) k:=h.put 7 _ (by simp[aF];omega) rfl (fun _=>⟨by simp[hx0],(h.due hbd).2⟩) (by omega) h.keep
  rw[hbd] at c6
  have HC:=vQ (eQ f env Q h1 hE (fun w' hl ha=>hT w' (x-1) hl (((Aside.refl (·=g) w).setCell (p:=⟨g,7,none⟩) (.inl rfl) _).trans ha (fun _ _ h=>h))))
  have HB:=vQ hbd
  clear h hT hE hbd h1 hpos hx0
  go_enter Tryz.func55,Tryz.ntmps55
  go_wp2_with fail
  refine HC.out.mono ?_
  rintro e w3 ⟨rfl,u,l,w2,hq,ha,hK⟩
  have c4:w3.cell? ⟨g,4,none⟩=some (.int .i64 s.done):=hK.cell 4
  have f4:=hK.thawed 4
  have HK:Hid (aE (w3.setCell ⟨g,4,none⟩ (.int .i64 ((s.done:Int)+1))) B g u { Dv.did s with b:=l,safe:=min s.safe l.length } (x-1) k):=hK.put 4 _ (by simp[aF,Dv.did]) rfl (fun _=>by have:=hK.due HB.out;simpa[Dv.did,HB.out] using this) hK.left hK.keep
  have HA:=vQ (ha.setCell (p:=⟨g,4,none⟩) (.inl rfl) (.int .i64 ((s.done:Int)+1)))
  have HQ:=vQ hq
  clear hq ha hK HC
  go_wp2
  go_ret
  exact⟨rfl,u,l,w2,x-1,HQ.out,HA.out,HK.out⟩
end
end
section
open Go.RowKit
attribute [local go_sem] aP aT
theorem aE.drewN{w:World}{B g:Nat}{v:Value}{s:Dv.St}{x k:Nat}(h:aE w B g v s x k)(j:Nat):aE (w.drewN j) B g v s x k:=⟨h.lies,h.has.drewN j,h.base,h.due,h.left,h.keep⟩
section
variable {B g:Nat} {v:Value} {s:Dv.St} {x k:Nat} {w:World}
end
end
section
open Go.RowKit
attribute [local go_sem] aP aT
theorem qf(B:Nat)(v:Value)(xs l:L8)(p:OA)(c:Nat)(w:World)(hown:Has w B v xs)(h:At w p l)(hlen:xs.length+l.length<=140737488355328)(hB:B<=w.1.size):
  ∃(q:OA) (cap:Nat) (W:World),bC Tryz.prog 31 31 31 v (.slice p l.length c) w (.slice q (xs++l).length cap) W∧Has W B (.slice q (xs++l).length cap) (xs++l)∧Aside (fun k=>v.ownBlock=some k) w W∧(xs++l).length<=cap∧∀k,(Value.slice q (xs++l).length cap).ownBlock=some k->v.ownBlock=some k∨w.1.size<=k:=by
 obtain⟨i,hi,hz,hsz,hby⟩:=info_parts fZ
 by_cases h0:l=[]
 ·subst h0
  obtain⟨q,cap,rfl,-,hcap⟩:=hown.at
  rw[List.append_nil]
  exact⟨q,cap,w,⟨run_append_nothing (P:=Tryz.prog) w 31 31 31 5 i Tryz.underlying31 hi q xs.length cap hcap (.slice p 0 c) (by rw[hsz];exact fG c h)⟩,hown,Aside.refl _ _,hcap,fun k hk=>.inl hk⟩
 ·obtain⟨b,o,rfl,hbl,hc⟩:=bz h (List.length_pos_iff.2 h0)
  obtain⟨g,cap,W,hr,hm,hgr,hgb,_⟩:=run_append_lies (P:=Tryz.prog) w 31 31 B 5 i (.int .u8 0) 1 1 Tryz.underlying31 hi hz hsz hby rfl (by decide) v xs.length (cellsOf xs) hown ⟨b,o,none⟩ l.length c (cellsOf l) (by rw[aK,Nat.mul_one])
   (fun j u hj=>by
    have hj2:j<l.length:=by
     have:=(List.getElem?_eq_some_iff.1 hj).1
     simpa[cellsOf] using this
    rw[aY l j hj2] at hj
    cases hj
    rw[Lib.add_plain]
    exact hc j hj2)
   (fun u hu=>by obtain⟨_,_,rfl⟩:=List.mem_map.1 hu;rfl) (List.length_pos_iff.2 h0) (by unfold maxLen;omega) (by omega) hB w.1.size rfl
  rw[<-bL,<-List.length_append] at hm
  rw[<-List.length_append] at hr
  have hH:Has W B (.slice (some ⟨g,0,none⟩) (xs++l).length cap) (xs++l):=hm
  refine⟨some ⟨g,0,none⟩,cap,W,⟨hr⟩,hH,ll hgr,?_,?_⟩
  ·obtain⟨q',cap',he,_,h2⟩:=hH.at
   injection he with _ _ e2
   omega
  ·intro k hk
   simp only[Value.ownBlock,Option.some.injEq] at hk
   subst hk
   rcases hgb with h1 | h1
   ·exact .inl h1
   ·exact .inr (by omega)
theorem kg{B:Nat}{v:Value}{xs l:L8}{p:OA}{c:Nat}{w:World}(hown:Has w B v xs)(h:At w p l)(hlen:xs.length+l.length<=140737488355328)(hB:B<=w.1.size){ops:Array Oper}{rest:List Oper}{o:Oper}{a:Act}{Q:Exit->Act->World->Prop}{y x:Operand}(ht:o.type=31)(hg:o.guard=none)(hop:o.op=Op.call { callee:=Callee.builtin Builtin.append,args:=#[y,x],argTypes:=#[31,31] })(hs:a.eval y=v)(hx:a.eval x=.slice p l.length c)(hK:∀ys q cap W,Hid (ys=xs++l)->Has W B (.slice q ys.length cap) ys->Aside (fun k=>v.ownBlock=some k) w W->(∀k,(Value.slice q ys.length cap).ownBlock=some k->v.ownBlock=some k∨w.1.size<=k)->wpList Tryz.prog ops Q rest (a.put o.dst (.slice q ys.length cap)) W):
  wpList Tryz.prog ops Q (o::rest) a w:=by
 obtain⟨q,cap,W,hr,hm,ha,-,hb⟩:=qf B v xs l p c w hown h hlen hB
 have hr':bC Tryz.prog 31 31 o.type v (.slice p l.length c) w (.slice q (xs++l).length cap) W:=by rw[ht];exact hr
 exact az hr' hg hop hs hx (hK _ q cap W (vQ rfl) hm ha hb)
theorem nr(p:OA)(c:Nat)(l:L8)(hl:l.length<=140737488351232)(w:World)(h:At w p l):
  Calls Tryz.prog 112 #[.slice p l.length c] w fun e w'=>∃q cap,e=.returned (.slice q l.length cap)∧Has w' w.1.size (.slice q l.length cap) l∧Below w.1.size w w':=by
 have HA:=vQ h
 clear h
 go_enter Tryz.func112,Tryz.ntmps112
 go_wp2_with (at_builtin;refine kg (xs:=[]) (v:=.slice none 0 0) (aR _ _) HA.out (by simp;omega) vX rfl rfl rfl rfl rfl ?_;intro ys q cap W HY hH ha _)
 go_ret
 have hy:ys=l:=HY.out
 subst hy
 exact⟨q,cap,rfl,hH,ha.below vX (fun k _ hk=>by cases hk)⟩
section
variable {B g:Nat} {v:Value} {s:Dv.St} {x k:Nat} {w:World}
end
end
section
open Go.RowKit
attribute [local go_sem] aP aT
section
variable {B g:Nat} {v:Value} {s:Dv.St} {x k:Nat} {w:World}
end
end
end Go.Proofs.YtlgfdgdlaahpfaaGreatDoor
