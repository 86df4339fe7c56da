import Derived.Test.YtceomhodhmcknaaGreatDoorA9
import Derived.Test.YtceomhodhmcknaaGreatDoorB42
import Derived.Test.YtceomhodhmcknaaGreatDoorB27
set_option maxHeartbeats 400000
namespace Go.Proofs.YtceomhodhmcknaaGreatDoor
variable{B er g g2 n:Nat}{W w w':World}{b l:L8}{v:Value}{p:Int}{s:List Col}{f:Fr}
section
open Go.RowKit
def dv(v:Value)(s:Dv.St):AV:=#[v,.int .i64 s.most,.int .i64 s.safe,.bool s.down,.bool s.bound,.int .i64 s.after,.int .i64 s.keep,.int .i64 s.told,.int .i64 s.done]
structure cU(w:World)(B g:Nat)(v:Value)(s:Dv.St):Prop where
 lies:w.1[g]?=some (.cells (dv v s) 101)
 has:Has w B v s.b
 base:B<=g
 apart:v.ownBlock≠some g
theorem cU.lt{s:Dv.St}(h:cU w B g v s):g<w.1.size:=(Array.getElem?_eq_some_iff.1 h.lies).1
theorem cU.cell{s:Dv.St}(h:cU w B g v s)(i:Nat):w.cell? ⟨g,i,none⟩=(dv v s)[i]?:=by
 unfold World.cell?
 rw[h.lies]
 rfl
theorem cU.thawed{s:Dv.St}(h:cU w B g v s)(i:Nat):w.frozen? ⟨g,i,none⟩=false:=by
 simp[World.frozen?,h.lies]
theorem cU.put{s s':Dv.St}(h:cU w B g v s)(i:Nat)(u:Value)(he:dv v s'=(dv v s).setIfInBounds i u)(hb:s'.b=s.b):cU (w.setCell ⟨g,i,none⟩ u) B g v s':=by
 have ha:Aside (·=g) w (w.setCell ⟨g,i,none⟩ u):=(Aside.refl (·=g) w).setCell (p:=⟨g,i,none⟩) (.inl rfl) u
 refine⟨?_,?_,h.base,h.apart⟩
 ·simp only[World.setCell,Array.getElem?_modify,h.lies,if_true,Option.map_some]
  rw[if_neg (by simp),he]
 ·rw[hb]
  exact h.has.aside ha (fun k hk hc=>h.apart (by rw[hk,hc]))
theorem cU.aside{s:Dv.St}{F:Nat->Prop}(h:cU w B g v s)(ha:Aside F w w')(hg:¬F g)(hv:∀k,v.ownBlock=some k->¬F k):cU w' B g v s :=
 ⟨by rw[ha.block g h.lt hg];exact h.lies,h.has.aside ha hv,h.base,h.apart⟩
section
variable {B g:Nat} {v:Value} {s:Dv.St} {w:World}
def sP(w:World)(B g:Nat)(v:Value)(r:Nat×Dv.St)(e:Ending)(w':World):Prop :=
 e=.returned (.int .i64 (r.1:Nat))∧∃v',cU w' B g v' r.2∧Aside (fun k=>k=g∨v.ownBlock=some k) w w'∧(v'=v∨∀k,v'.ownBlock=some k->v.ownBlock=some k∨w.1.size<=k)
end
end
section
open Go.RowKit
theorem cU.drewN{s:Dv.St}(h:cU w B g v s)(n:Nat):cU (w.drewN n) B g v s:=⟨h.lies,h.has,h.base,h.apart⟩
theorem cU.drew{s:Dv.St}(h:cU w B g v s):cU w.drew B g v s:=⟨h.lies,h.has,h.base,h.apart⟩
section
variable {B g:Nat} {v:Value} {s:Dv.St} {w:World}
end
end
section
open Go.RowKit
theorem pm(q:Nat)(h:q<=1048576)(w:World):Calls Tryz.prog 18 #[.int .i64 q] w fun e w'=>e=.returned (.tuple #[.pointer (some ⟨w.1.size,0,none⟩),.int .i64 0])∧cU w' w.1.size w.1.size (.slice none 0 0) (Dv.new q)∧Below w.1.size w w':=by
 have HR:Hid (cU (w.alloc (.cells (dv (.slice none 0 0) (Dv.new q)) 101)) w.1.size w.1.size (.slice none 0 0) (Dv.new q)) :=
  ⟨cz w _,aX _ _,xX,by simp[Value.ownBlock]⟩
 have HB:Hid (Below w.1.size w (w.alloc (.cells (dv (.slice none 0 0) (Dv.new q)) 101))):=xY
 have h1:(q:Int)<=1048576:=by omega
 go_enter Tryz.func18,Tryz.ntmps18
 go_wp2
 go_ret2
 exact⟨rfl,HR.out,HB.out⟩
theorem Has.set{cap:Nat}(h:Has w B (.slice (some ⟨g,0,none⟩) l.length cap) l)(i:Nat)(c:UInt8):Has (w.setCell ⟨g,i,none⟩ (.int .u8 (c.toNat:Int))) B (.slice (some ⟨g,0,none⟩) l.length cap) (l.set i c):=by
 have el:(l.set i c).length=l.length:=List.length_set
 unfold Has World.ownsRow
 rw[el]
 refine⟨by rw[aQ,el,Nat.mul_one],?_⟩
 rcases h.2 with ⟨h1,_⟩ | ⟨g',cap',cur,h1,h2,h3,h4,h5,h6,h7⟩
 ·cases h1
 ·cases h1
  refine .inr ⟨g,cap,cur.setIfInBounds i (.int .u8 (c.toNat:Int)),rfl,h2,?_,h4,h5,by simpa using h6,?_⟩
  ·simp only[World.setCell,Array.getElem?_modify,h3,if_true,Option.map_some]
   rw[if_neg (by simp)]
  ·rw[Array.toList_setIfInBounds,List.take_set,h7]
   simp[cellsOf,List.map_set]
section
variable {B g:Nat} {v:Value} {s:Dv.St} {w:World}
end
end
section
open Go.RowKit
theorem me{row:Option Nat}(hg:w.grownBy w' row):Aside (fun k=>row=some k) w w' :=
 ⟨hg.os,hg.tape,hg.output,hg.size,fun k hk hf=>hg.block k hk (fun e=>hf e.symm)⟩
theorem o9{xs:L8}(hown:Has w B v xs)(c:UInt8)(hlen:xs.length+1<=140737488355328)(hB:B<=w.1.size)(ad:Nat)(hc:w.cell? ⟨ad,0,none⟩=some (.int .u8 (c.toNat:Int))){ops:Array Oper}{o:Oper}{a:Act}{K:Act->World->Prop}{Q:Exit->Act->World->Prop}{E:Prop}(s x:Operand)(hg:o.guard=none)(hop:o.op=Op.call { callee:=Callee.builtin Builtin.append,args:=#[s,x],argTypes:=#[22,22] })(hs:a.eval s=v)(hx:a.eval x=.slice (some ⟨ad,0,none⟩) 1 1)(hK:∀g cap W,Has W B (.slice (some ⟨g,0,none⟩) (xs.length+1) cap) (xs++[c])->Aside (fun k=>v.ownBlock=some k) w W->(v.ownBlock=some g∨w.1.size<=g)->K (a.put o.dst (.slice (some ⟨g,0,none⟩) (xs.length+1) cap)) W):
  if Region.wanted o (yielded ops a.tmps)=true then Oper.wp Tryz.prog o a w K Q else E:=by
 obtain⟨i,hi,hz,hsz,hby⟩:=info_parts fw
 refine step_append_lies w hg s x 22 hop B 5 i (.int .u8 0) 1 1 Tryz.underlying22 hi hz hsz hby rfl (by decide) v xs.length (cellsOf xs) hs hown ⟨ad,0,none⟩ 1 1 (cellsOf [c]) hx rfl ?_ ?_ (by decide) (by unfold maxLen;omega) (by omega) hB w.1.size rfl ?_
 ·intro j u hj
  have hj0:j=0:=by
   have:=(List.getElem?_eq_some_iff.1 hj).1
   simp[cellsOf] at this
   exact this
  subst hj0
  simp[cellsOf] at hj
  subst hj
  rw[Lib.add_plain]
  exact hc
 ·intro u hu
  obtain⟨_,_,rfl⟩:=List.mem_map.1 hu
  rfl
 ·intro g cap W hm hgr hgb _
  rw[<-bH] at hm
  refine hK g cap W ?_ (me hgr) ?_
  ·unfold Has
   rw[List.length_append]
   exact hm
  ·rcases hgb with h | h
   ·exact .inl h
   ·exact .inr (by omega)
theorem cU.push{cap:Nat}{s:Dv.St}(h:cU w B g v s)(ha:Aside (fun k=>v.ownBlock=some k) w W)(hu:Has W B (.slice (some ⟨g2,0,none⟩) l.length cap) l)(hg2:v.ownBlock=some g2∨w.1.size<=g2):
  cU (W.setCell ⟨g,0,none⟩ (.slice (some ⟨g2,0,none⟩) l.length cap)) B g (.slice (some ⟨g2,0,none⟩) l.length cap) { s with b:=l }∧W.cell? ⟨g,0,none⟩=some v∧W.frozen? ⟨g,0,none⟩=false:=by
 have hlt:=h.lt
 have hl:W.1[g]?=some (.cells (dv v s) 101):=by rw[ha.block g hlt h.apart];exact h.lies
 have hne:g2≠g:=by
  rcases hg2 with h1 | h1
  ·intro hc;exact h.apart (by rw[<-hc];exact h1)
  ·omega
 have ha2:Aside (·=g) W (W.setCell ⟨g,0,none⟩ (.slice (some ⟨g2,0,none⟩) l.length cap)):=(Aside.refl (·=g) W).setCell (p:=⟨g,0,none⟩) (.inl rfl) _
 refine⟨⟨?_,hu.aside ha2 (fun k hk hc=>?_),h.base,?_⟩,?_,?_⟩
 ·simp only[World.setCell,Array.getElem?_modify,hl,if_true,Option.map_some]
  rw[if_neg (by simp)]
  rfl
 ·simp only[Value.ownBlock,Option.some.injEq] at hk
  exact hne (hk.trans hc)
 ·simp only[Value.ownBlock,ne_eq,Option.some.injEq]
  exact hne
 ·rw[ha.cell (p:=⟨g,0,none⟩) hlt h.apart];exact h.cell 0
 ·rw[ha.frozen (p:=⟨g,0,none⟩) hlt h.apart];exact h.thawed 0
end
section
open Go.RowKit
section
variable {B g:Nat} {v:Value} {s:Dv.St} {w:World}
def fK(w:World)(B g:Nat)(v:Value)(q:OA)(n cap:Nat)(t:Dv.St)(wr:World):Prop :=
 cU wr B g (.slice q n cap) t∧n=t.b.length∧Aside (fun k=>k=g∨v.ownBlock=some k) w wr∧((Value.slice q n cap)=v∨∀k,(Value.slice q n cap).ownBlock=some k->v.ownBlock=some k∨w.1.size<=k)
theorem fK.next{wr:World}{cap cap2:Nat}{q:OA}{t:Dv.St}{c:UInt8}(h:fK w B g v q n cap t wr){wa:World}(hu:Has W B (.slice (some ⟨g2,0,none⟩) (t.b.length+1) cap2) (t.b++[c]))(ha:Aside (fun k=>(Value.slice q n cap).ownBlock=some k) wa W)(hg2:(Value.slice q n cap).ownBlock=some g2∨wa.1.size<=g2)(he:∃o,wa.1=wr.1.push o)(ho:wa.os=wr.os)(htp:wa.tape=wr.tape)(hou:wa.output=wr.output):
  fK w B g v (some ⟨g2,0,none⟩) (t.b.length+1) cap2 { t with b:=t.b++[c] } (W.setCell ⟨g,0,none⟩ (.slice (some ⟨g2,0,none⟩) (t.b.length+1) cap2))∧W.cell? ⟨g,0,none⟩=some (.slice q n cap)∧W.frozen? ⟨g,0,none⟩=false:=by
 obtain⟨h1,h2,h3,h4⟩:=h
 obtain⟨ob,he⟩:=he
 have hsz:wa.1.size=wr.1.size+1:=by rw[he,Array.size_push]
 have hwa:Aside (fun k=>(Value.slice q n cap).ownBlock=some k) wr wa:=⟨ho,htp,hou,by omega,fun k hk _=>by rw[he,Array.getElem?_push,if_neg (by omega)]⟩
 have hrW:=hwa.trans ha (fun _ _ h=>h)
 have el:(t.b++[c]).length=t.b.length+1:=by simp
 rw[<-el] at hu ⊢
 obtain⟨r1,r2,r3⟩:=h1.push hrW hu (by rcases hg2 with h | h;exact .inl h;exact .inr (by omega))
 refine⟨⟨r1,rfl,?_,.inr fun k hk=>?_⟩,r2,r3⟩
 ·refine(h3.trans hrW ?_).setCell (.inl (.inl rfl)) _
  intro k hk hkb
  rcases h4 with h4 | h4
  ·right;rw[<-h4];exact hkb
  ·rcases h4 k hkb with h5 | h5
   ·exact .inr h5
   ·omega
 ·simp only[Value.ownBlock,Option.some.injEq] at hk
  subst hk
  rcases hg2 with h5 | h5
  ·rcases h4 with h4 | h4
   ·left;rw[<-h4];exact h5
   ·exact h4 _ h5
  ·right
   have:=h3.size
   omega
theorem tf(h:cU w B g v s)(p:OA)(c:Nat)(l:L8)(hl:l.length<=140737488351232)(hA:At w p l)(hp:l≠[]->∀b o,p=some ⟨b,o,none⟩->b≠g∧v.ownBlock≠some b)(hb:s.b.length<=2097152)(hB:B<=w.1.size):
  Calls Tryz.prog 20 #[.pointer (some ⟨g,0,none⟩),.slice p l.length c] w (sP w B g v (Dv.tail s l)):=by
 have c0:w.cell? ⟨g,0,none⟩=some v:=h.cell 0
 have HR:=xQ h
 obtain⟨q,cap,hv,-,-⟩:=h.has.at
 subst hv
 by_cases hx:2097152<s.b.length+l.length
 ·have HE:Hid (Dv.tail s l=(2,s)):=by show _=_;unfold Dv.tail;rw[if_pos hx]
  have hx1:(2097152:Int)<(s.b.length:Int)+(l.length:Int):=by omega
  clear h hA hp hB
  go_enter Tryz.func20,Tryz.ntmps20
  go_wp2
  go_ret
  unfold sP
  rw[HE.out]
  exact⟨rfl,_,HR.out,Aside.refl _ _,.inl rfl⟩
 ·have HE:Hid (Dv.tail s l=(0,{ s with b:=s.b++l,safe:=(s.b++l).length })):=by show _=_;unfold Dv.tail;rw[if_neg hx]
  have hx1:(s.b.length:Int)+(l.length:Int)<=2097152:=by omega
  have HA:=xQ hA
  have HP:=xQ hp
  have hg:=h.lt
  have hbase:=h.base
  clear h hA hp
  go_enter Tryz.func20,Tryz.ntmps20
  go_wp2
  go_loopw [5] (fun v5 wr=>∃(i:Nat) (q':OA) (n cap':Nat),i<=l.length∧v5=.int .i64 i∧Hid (fK w B g (.slice q s.b.length cap) q' n cap' { s with b:=s.b++l.take i } wr)) (fun v5 _=>l.length-(intOf v5).toNat)
  case atStart=>exact⟨0,q,s.b.length,cap,by omega,rfl,by
   have e:{ s with b:=s.b++l.take 0 }=s:=by cases s;simp
   rw[e]
   exact⟨HR.out,rfl,Aside.refl _ _,.inl rfl⟩⟩
  case round=>
   obtain⟨i,q',n,cap',hi,rfl,HK⟩:=hrel
   have hsz:=HK.out.2.2.1.size
   have hcg:wr.cell? ⟨g,0,none⟩=some (.slice q' n cap'):=HK.out.1.cell 0
   have HH:=xQ HK.out.1.has
   have hn:=HK.out.2.1
   have hn2:(s.b++l.take i).length=s.b.length+i:=by rw[List.length_append,List.length_take];omega
   simp only at hn HH
   by_cases hlt:i<l.length
   ·obtain⟨b,o,rfl,hbl,hc⟩:=aZ HA.out (by omega)
    have hbB:=HP.out (fun hc=>by rw[hc] at hlt;simp at hlt) b o rfl
    have hcw:wr.cell? ⟨b,o+i,none⟩=some (.int .u8 (l[i].toNat:Int)):=by
     rw[HK.out.2.2.1.cell (p:=⟨b,o+i,none⟩) hbl (by
      rintro(h1 | h1)
      ·exact hbB.1 h1
      ·exact hbB.2 h1)]
     exact hc i hlt
    have HX:Hid (l.take (i+1)=l.take i++[l[i]]):=List.take_succ_eq_append_getElem hlt
    have hi1:(i:Int)<(l.length:Int):=by omega
    have hBr:B<=wr.1.size:=by omega
    have hgr:g<wr.1.size:=by omega
    clear hc
    obtain⟨lv,hlv⟩:∃lv,lv=l[i]:=⟨_,rfl⟩
    rw[<-hlv] at hcw HX
    clear hlv
    obtain⟨xs,hxs⟩:∃xs,xs=s.b++l.take i:=⟨_,rfl⟩
    rw[<-hxs] at HK HH hn hn2
    have HXS:=xQ hxs
    have HN:=xQ hn
    clear hxs hn
    have hxl:xs.length+1<=140737488355328:=by omega
    have HN2:=xQ hn2
    clear hn2
    go_wp2
    go_region_law (refine o9 (B:=B) (v:=.slice q' n cap') (xs:=xs) (by exact HH.out.alloc _) lv hxl (by simp;omega) wr.1.size (by exact World.cell?_alloc_new wr _ _ 0) (.tmp 25) (.tmp 30) (by rfl) (by rfl) (by rfl) (by rfl) ?_;intro g2 cap2 W2 hu ha hg2;obtain⟨hP,hc0,hf0⟩:=HK.out.next hu ha hg2 ⟨_,rfl⟩ rfl rfl rfl;have HP2:=xQ hP;clear hP hu ha hg2)
    all_goals
     go_wp2
     go_roundw
     case rel=>exact⟨i+1,_,_,_,by omega,by go_num,by rw[HX.out,<-List.append_assoc,<-HXS.out];exact HP2.out⟩
     case measure=>simp[intOf];omega
   ·have hii:i=l.length:=by omega
    have HT:Hid (s.b++l.take i=s.b++l):=by show _=_;rw[hii,List.take_length]
    have hf:=HK.out.1.thawed 2
    have hc2:wr.cell? ⟨g,2,none⟩=some (.int .i64 s.safe):=HK.out.1.cell 2
    have hnl:n=s.b.length+l.length:=by rw[hn,hn2,hii]
    have HR2:Hid (cU (wr.setCell ⟨g,2,none⟩ (.int .i64 (n:Nat))) B g (.slice q' n cap') { s with b:=s.b++l,safe:=(s.b++l).length }):=by
     have:=HK.out.1.put (s':={ s with b:=s.b++l.take i,safe:=n }) 2 (.int .i64 (n:Nat)) rfl rfl
     rw[hn,HT.out] at this
     rw[hn,HT.out]
     exact this
    have HAs:=xQ HK.out.2.2.1
    have HV:=xQ HK.out.2.2.2
    have hil:¬(i:Int)<(l.length:Int):=by omega
    clear HK HH hn hn2 hii hnl HT hlt
    go_wp2
    go_ret
    unfold sP
    rw[HE.out]
    exact⟨rfl,_,HR2.out,HAs.out.setCell (.inl (.inl rfl)) _,HV.out⟩
end
end
section
open Go.RowKit
def bI(F:Nat->Prop)(w:World)(P:World->Prop):Prop:=∀w',Aside F w w'->P w'
theorem bI.here{F:Nat->Prop}{P:World->Prop}(h:bI F w P):P w:=h w (Aside.refl _ _)
theorem bI.step{F F':Nat->Prop}{P:World->Prop}(h:bI F w P)(ha:Aside F w w')(hF:∀k,F' k->F k∨w.1.size<=k):bI F' w' P:=fun w'' h2=>h w'' (ha.trans h2 fun i hi hf=>(hF i hf).elim id (fun hc=>absurd hi (Nat.not_lt_of_le hc)))
theorem gg(k:Nat):∀us:List (List Value),(∀u∈us,u.length=k)->∀(j:Nat) (u:List Value),us[j]?=some u->∀m,m<k->us.flatten[j*k+m]?=u[m]?
 | [],_,j,u,h,_,_=>by simp at h
 |x::us,h,0,u,hu,m,hm=>by
  have hx:=h x List.mem_cons_self
  simp at hu
  subst hu
  rw[List.flatten_cons,Nat.zero_mul,Nat.zero_add,List.getElem?_append_left (by omega)]
 |x::us,h,j+1,u,hu,m,hm=>by
  have hx:=h x List.mem_cons_self
  rw[List.flatten_cons,List.getElem?_append_right (by rw[hx,Nat.add_mul];omega),hx,show(j+1)*k+m-k=j*k+m by rw[Nat.add_mul];omega]
  exact gg k us (fun y hy=>h y (List.mem_cons_of_mem _ hy)) j u (by simpa using hu) m hm
section
variable {α:Type} {T S:TypeId} {k:Nat} {P:α->List Value->World->Prop} {w w':World} {B:Nat} {v:Value} {xs:List α}
structure Lot(T:TypeId)(k:Nat)(P:α->List Value->World->Prop)(w:World)(B:Nat)(v:Value)(xs:List α):Prop where
 out:∃us:List (List Value),us.length=xs.length∧(∀u∈us,u.length=k)∧w.ownsRow B T k v xs.length us.flatten∧∀j (hj:j<xs.length),∃u,us[j]?=some u∧bI (fun i=>v.ownBlock=some i) w (P xs[j] u)
theorem kd(w:World)(B:Nat):Lot T k P w B (.slice none 0 0) []:=⟨[],rfl,by simp,⟨by simp,.inl ⟨rfl,rfl⟩⟩,fun j hj=>by simp at hj⟩
theorem Lot.lt(h:Lot T k P w B v xs):∀i,v.ownBlock=some i->B<=i∧i<w.1.size:=by
 obtain⟨us,_,_,h1,_⟩:=h.out
 exact World.ownsRow.lt h1
theorem Lot.aside{F:Nat->Prop}(h:Lot T k P w B v xs)(ha:Aside F w w')(hv:∀i,v.ownBlock=some i->¬F i)(hP:∀x u,bI (fun i=>v.ownBlock=some i) w (P x u)->bI (fun i=>v.ownBlock=some i) w' (P x u)):Lot T k P w' B v xs:=by
 obtain⟨us,h1,h2,h3,h4⟩:=h.out
 refine⟨us,h1,h2,⟨h3.1,?_⟩,fun j hj=>?_⟩
 ·rcases h3.2 with h5 | ⟨g,cap,cur,rfl,h6,h7,h8⟩
  ·exact .inl h5
  ·exact .inr ⟨g,cap,cur,rfl,h6,by rw[ha.block g (Array.getElem?_eq_some_iff.1 h7).1 (hv g rfl)];exact h7,h8⟩
 ·obtain⟨u,e1,e2⟩:=h4 j hj
  exact⟨u,e1,hP _ _ e2⟩
theorem Lot.on(h:Lot T k P w B v xs)(hb:Below w.1.size w w'):Lot T k P w' B v xs:=h.aside (ag hb (fun _=>False)) (fun _ _ hc=>hc) fun _ _ hs=>hs.step (ag hb _) (fun _ hk=>.inl hk)
theorem Lot.form(h:Lot T k P w B v xs):∃q c,v=.slice q xs.length c∧xs.length<=c:=by
 obtain⟨us,_,_,h1,_⟩:=h.out
 rcases h1.2 with ⟨rfl,h3⟩ | ⟨g,cap,cur,rfl,_,_,h4,_⟩
 ·exact⟨none,0,by rw[h3],by omega⟩
 ·exact⟨_,_,rfl,h4⟩
theorem Lot.cell(h:Lot T k P w B v xs)(j:Nat)(hj:j<xs.length):∃g cap u,v=.slice (some ⟨g,0,none⟩) xs.length cap∧xs.length<=cap∧B<=g∧g<w.1.size∧u.length=k∧(∀m,m<k->w.cell? ⟨g,j*k+m,none⟩=u[m]?)∧P xs[j] u w:=by
 obtain⟨us,h1,h2,h3,h4⟩:=h.out
 obtain⟨u,e1,e2⟩:=h4 j hj
 rcases h3.2 with ⟨_,h5⟩ | ⟨g,cap,cur,rfl,h6,h7,h8,_,h9,h10⟩
 ·omega
 ·refine⟨g,cap,u,rfl,h8,h6,(Array.getElem?_eq_some_iff.1 h7).1,h2 u (List.mem_of_getElem? e1),fun m hm=>?_,e2.here⟩
  have hlt:j*k+m<xs.length*k:=by
   have:=Nat.mul_le_mul_right k (show j+1<=xs.length from hj)
   rw[Nat.add_mul] at this
   omega
  rw[<-gg k us h2 j u e1 m hm,<-h10,List.getElem?_take_of_lt hlt]
  simp[World.cell?,h7]
theorem mq{ad H b:Nat}{z:Value}(hinf:(Tryz.prog.info? T).map (fun i=>(i.zero,i.size,i.bytes))=some (some z,k,b))(hS:Tryz.prog.underlying S=some (.slice T))(hzk:z.cells.size=k)(hk0:0<k)(hr:Lot T k P w B v xs)(x:α)(C:AV)(hC:C.size=k)(h1:∀a∈C.toList,a.oneCell'=true)(hP:bI (fun i=>v.ownBlock=some i) w (P x C.toList))(hblk:w.1[ad]?=some (.cells C T (0,0)))(hn:(xs.length+1)*b<=140737488355328)(hn2:xs.length<=1000000000)(hB:B<=w.1.size)(hH:w.1.size=H){ops:Array Oper}{rest:List Oper}{o:Oper}{a:Act}{Q:Exit->Act->World->Prop}{y q:Operand}(hg:o.guard=none)(hop:o.op=Op.call { callee:=Callee.builtin Builtin.append,args:=#[y,q],argTypes:=#[S,S] })(hs:a.eval y=v)(hx:a.eval q=.slice (some ⟨ad,0,none⟩) 1 1)(hK:∀g cap w',Lot T k P w' B (.slice (some ⟨g,0,none⟩) (xs.length+1) cap) (xs++[x])->Aside (fun j=>v.ownBlock=some j) w w'->(v.ownBlock=some g∨g=H)->wpList Tryz.prog ops Q rest (a.put o.dst (.slice (some ⟨g,0,none⟩) (xs.length+1) cap)) w'):
  wpList Tryz.prog ops Q (o::rest) a w:=by
 obtain⟨i,hi,hz,hsz,hby⟩:=info_parts hinf
 obtain⟨us,e1,e2,e3,e4⟩:=hr.out
 refine wpList_append_lies w hg y q S hop B T i z k b hS hi hz hsz hby hzk hk0 v xs.length us.flatten hs e3 ⟨ad,0,none⟩ 1 1 _ hx (by simp[hC])
  (World.news_of_block hblk) h1 (by decide) (by unfold maxLen;omega) hn hB H hH fun g cap w' h3 h4 h5 _=>?_
 have ha:=cd h4
 have hF:∀i,(Value.slice (some ⟨g,0,none⟩) (xs.length+1) cap).ownBlock=some i->v.ownBlock=some i∨w.1.size<=i:=fun i hi=>by
  simp only[Value.ownBlock,Option.some.injEq] at hi
  subst hi
  rcases h5 with h5 | h5
  ·exact .inl h5
  ·exact .inr (by omega)
 refine hK g cap w' ⟨us++[C.toList],by simp[e1],fun u hu=>?_,?_,fun j hj=>?_⟩ ha h5
 ·rcases List.mem_append.1 hu with hu | hu
  ·exact e2 u hu
  ·simp at hu
   rw[hu]
   simpa using hC
 ·rw[List.length_append,List.length_singleton,List.flatten_append]
  simpa using h3
 ·by_cases hje:j<xs.length
  ·obtain⟨u,f1,f2⟩:=e4 j hje
   refine⟨u,by rw[List.getElem?_append_left (by omega)];exact f1,?_⟩
   rw[List.getElem_append_left hje]
   exact f2.step ha hF
  ·have hj2:j=xs.length:=by rw[List.length_append,List.length_singleton] at hj;omega
   subst hj2
   refine⟨C.toList,by rw[List.getElem?_append_right (by omega),e1];simp,?_⟩
   simp only[List.getElem_append_right xX,Nat.sub_self,List.getElem_cons_zero]
   exact hP.step ha hF
end
end
section
namespace Blk
theorem get_lt140(t:L8):(Leb.get t).err<140:=Sch.getF_lt140 10 true t
theorem step_lt140(out t:L8):(step out t).err<140:=by
 unfold step
 split
 ·exact get_lt140 t
 ·split
  ·unfold takeL
   repeat' split
   all_goals (dsimp only;omega)
  ·unfold takeM
   split
   ·exact(by decide:5<140)
   ·split
    ·exact get_lt140 _
    ·repeat' split
     all_goals (dsimp only;omega)
theorem toksF_lt140:∀(f:Nat) (out t:L8),(toksF f out t).err<140
 |_,out,[]=>by rw[toksF];exact(by decide:0<140)
 |0,_,_::_=>by rw[toksF];exact(by decide:0<140)
 |f+1,out,c::r=>by
  rw[toksF]
  split
  ·exact step_lt140 _ _
  ·exact toksF_lt140 f _ _
theorem unpack_lt140(b:L8):(unpack b).err<140:=by
 unfold unpack
 split
 ·exact(by decide:4<140)
 ·split
  ·exact toksF_lt140 _ _ _
  ·repeat' split
   all_goals (dsimp only;omega)
end Blk
structure Tl where
 at_:Int
 num:Int
 row:List V
namespace Rd
def rows(tr:List V->List V)(a n:Int)(ys:List (List V)):List Tl:=ys.mapIdx fun i y=>⟨a+(i:Nat),n,tr y⟩
theorem rows_snoc(tr:List V->List V)(a n:Int)(ys:List (List V))(y:List V):rows tr a n (ys++[y])=rows tr a n ys++[⟨a+(ys.length:Nat),n,tr y⟩]:=by
 unfold rows
 rw[List.mapIdx_concat]
theorem rows_len(tr:List V->List V)(a n:Int)(ys:List (List V)):(rows tr a n ys).length=ys.length:=by simp[rows]
theorem rows_get(tr:List V->List V)(a n:Int)(ys:List (List V))(i:Nat)(h:i<(rows tr a n ys).length):(rows tr a n ys)[i].at_=a+(i:Nat)∧(rows tr a n ys)[i].num=n:=by simp[rows]
def one(tr:List V->List V)(x:Sc.Pos)(f:Fr):List Tl:=if f.kind=2 then (match Bt.unpack (Sc.schAt x.wk f.number) f.block f.rows with
 |.error _=>[]
 |.ok ys=>rows tr f.first f.number ys) else []
def told(tr:List V->List V)(b:L8):Nat->List Tl
 |0=>[]
 |k+1=>told tr b k++(match Sc.goes b k with
  |none=>[]
  |some x=>match Sc.at_ b x.at_ with
   |.error _=>[]
   |.ok (f,_)=>one tr x f)
theorem told_succ{tr:List V->List V}{k:Nat}{x:Sc.Pos}(h:Sc.goes b k=some x)(ha:Sc.at_ b x.at_=.ok (f,n)):told tr b (k+1)=told tr b k++one tr x f:=by
 rw[told,h]
 simp only[ha]
theorem take_num{s:Wk}(hm:Sc.may s f p=true):s.number<=(Sc.take s f p).number:=by
 obtain⟨-,-,hf⟩:=Sc.may_parts hm
 unfold Sc.take
 split
 ·next hk=>exact Sc.follows_sch hk hf
 ·split
  ·obtain⟨-,c2,-⟩:=Sc.enter_same s f p
   show s.number<=(Sc.enter s f p).number
   omega
  ·exact Int.le_refl _
theorem take_rows{s:Wk}:(Sc.take s f p).rows=if f.kind=2 then s.rows+f.rows else s.rows:=by
 obtain⟨-,-,-,-,c5,-⟩:=Sc.enter_same s f p
 unfold Sc.take
 split
 ·next hk=>rw[if_neg (by omega)];rfl
 ·split
  ·next hk=>rw[<-c5];rfl
  ·next hk=>rfl
theorem rows_up{j:Nat}{x:Sc.Pos}(h:Sc.goes b j=some x):∀{k:Nat} {y:Sc.Pos},j<=k->Sc.goes b k=some y->x.wk.rows<=y.wk.rows
 |0,y,hk,hy=>by
  obtain rfl:j=0:=by omega
  rw[h] at hy
  injection hy with hy
  rw[hy]
  exact Int.le_refl _
 |k+1,y,hk,hy=>by
  rcases Nat.lt_or_ge k j with hc | hc
  ·obtain rfl:j=k+1:=by omega
   rw[h] at hy
   injection hy with hy
   rw[hy]
   exact Int.le_refl _
  ·obtain⟨z,hz,hs⟩:=Sc.goes_pred hy
   obtain⟨f,h1,h2,h3,-⟩:=Sc.step_ok hs
   have h4:=rows_up h hc hz
   rw[h3,take_rows]
   split
   ·next hk=>
    have:=((Sc.err_parts (Sc.may_parts h2).2.1).2.1 hk).2.2.2
    omega
   ·exact h4
structure Inv(tr:List V->List V)(b:L8)(j:Nat)(x:Sc.Pos)(ts:List Tl):Prop where
 goes:Sc.goes b j=some x
 told:ts=Rd.told tr b j
 len:(ts.length:Int)=x.wk.rows
 at_:∀i (h:i<ts.length),ts[i].at_=(i:Nat)
 num:∀i (h:i<ts.length),0<=ts[i].num∧ts[i].num<=x.wk.number
 mono:∀i (h:i+1<ts.length),ts[i].num<=ts[i+1].num
section
variable {tr:List V->List V} {b:L8} {j n:Nat} {x:Sc.Pos} {ts:List Tl} {f:Fr}
theorem inv_zero:Inv tr b 0 Sc.begin_ []:=⟨rfl,rfl,rfl,fun i h=>by simp at h,fun i h=>by simp at h,fun i h=>by simp at h⟩
def stepped(b:L8)(x:Sc.Pos)(f:Fr)(n:Nat):Sc.Pos:=⟨n,Sc.take x.wk f x.at_,x.read+Sc.reads b x.at_⟩
theorem Inv.step(h:Inv tr b j x ts)(ha:Sc.at_ b x.at_=.ok (f,n))(hm:Sc.may x.wk f x.at_=true):Sc.goes b (j+1)=some (stepped b x f n):=by
 refine Sc.goes_succ h.goes ?_
 unfold Sc.step
 simp only[ha]
 rw[if_pos hm]
 rfl
theorem Inv.other(h:Inv tr b j x ts)(ha:Sc.at_ b x.at_=.ok (f,n))(hm:Sc.may x.wk f x.at_=true)(hk:¬f.kind=2):Inv tr b (j+1) (stepped b x f n) ts:=by
 have hn:=take_num hm
 refine⟨h.step ha hm,?_,?_,h.at_,fun i hi=>⟨(h.num i hi).1,Int.le_trans (h.num i hi).2 hn⟩,h.mono⟩
 ·rw[told_succ h.goes ha,one,if_neg hk,List.append_nil]
  exact h.told
 ·show _=(Sc.take x.wk f x.at_).rows
  rw[take_rows,if_neg hk]
  exact h.len
theorem Inv.data(h:Inv tr b j x ts)(ha:Sc.at_ b x.at_=.ok (f,n))(hm:Sc.may x.wk f x.at_=true)(hk:f.kind=2){ys:List (List V)}(hu:Bt.unpack (Sc.schAt x.wk f.number) f.block f.rows=.ok ys):Inv tr b (j+1) (stepped b x f n) (ts++rows tr f.first f.number ys):=by
 have hn:=take_num hm
 obtain⟨-,he,hf⟩:=Sc.may_parts hm
 obtain⟨f1,f2,f3⟩:=Sc.follows_data hk hf
 have hp:=(Sc.err_parts he).2.1 hk
 have hyl:=(Bt.unpack_pack hu).2.2.1
 have hl:=h.len
 refine⟨h.step ha hm,?_,?_,fun i hi=>?_,fun i hi=>?_,fun i hi=>?_⟩
 ·rw[told_succ h.goes ha,one,if_pos hk,hu,<-h.told]
 ·show _=(Sc.take x.wk f x.at_).rows
  rw[take_rows,if_pos hk,List.length_append,rows_len]
  omega
 ·by_cases hc:i<ts.length
  ·rw[List.getElem_append_left hc];exact h.at_ i hc
  ·rw[List.getElem_append_right (by omega),(rows_get _ _ _ _ _ _).1]
   omega
 ·by_cases hc:i<ts.length
  ·rw[List.getElem_append_left hc]
   exact⟨(h.num i hc).1,Int.le_trans (h.num i hc).2 hn⟩
  ·rw[List.getElem_append_right (by omega),(rows_get _ _ _ _ _ _).2]
   refine⟨hp.1.1,?_⟩
   rw[f1]
   exact hn
 ·by_cases hc:i+1<ts.length
  ·rw[List.getElem_append_left hc,List.getElem_append_left (by omega)];exact h.mono i hc
  ·rw[List.getElem_append_right (show ts.length<=i+1 by omega),(rows_get _ _ _ _ _ _).2]
   by_cases hc2:i<ts.length
   ·rw[List.getElem_append_left hc2,f1];exact(h.num i hc2).2
   ·rw[List.getElem_append_right (by omega),(rows_get _ _ _ _ _ _).2]
    exact Int.le_refl _
end
def End(b:L8)(x:Sc.Pos)(er:Nat):Prop:=Sc.step b x=.error er∨∃f n,Sc.at_ b x.at_=.ok (f,n)∧Sc.may x.wk f x.at_=true∧f.kind=2∧Bt.unpack (Sc.schAt x.wk f.number) f.block f.rows=.error er
theorem rd_lt140:∀(s:List Col) (l:L8) (er:Nat),(∀c∈s,Ty.check 1 c.ty=0)->Rw.rd s l=.error er->er<140
 | [],l,er,_,h=>by rw[Rw.rd] at h;cases h
 |c::s,l,er,ht,h=>by
  rw[Rw.rd] at h
  split at h
  ·next e he=>injection h with h;subst h;exact Sch.rdV_lt140 _ 1 _ _ (ht c (by simp)) he
  ·split at h
   ·next e he=>injection h with h;subst h;exact rd_lt140 s _ _ (fun x hx=>ht x (by simp[hx])) he
   ·cases h
theorem read_lt140{a:Int}(h0:Sch.err s=0)(h:Rw.read s l a=.error er):er<140:=by
 unfold Rw.read at h
 split at h
 ·next hc=>exact absurd h0 hc
 ·split at h
  ·injection h with h;omega
  ·split at h
   ·next e he=>injection h with h;subst h;exact rd_lt140 s _ _ (Rw.types_ok h0) he
   ·split at h
    ·injection h with h;omega
    ·cases h
theorem rows_lt140(h0:Sch.err s=0):∀(n a er:Nat),Bt.rows s b n a=.error er->er<140
 |0,a,er,h=>by rw[Bt.rows] at h;cases h
 |n+1,a,er,h=>by
  rw[Bt.rows] at h
  split at h
  ·next e he=>injection h with h;subst h;exact read_lt140 h0 he
  ·split at h
   ·next e he=>injection h with h;subst h;exact rows_lt140 h0 n _ _ he
   ·cases h
theorem unpack_lt140{n:Int}(h0:Sch.err s=0)(h1:1<=n∧n<=64)(h:Bt.unpack s b n=.error er):er<140:=by
 unfold Bt.unpack at h
 rw[if_neg (by rw[Bt.numErr_make h0 h1.1 h1.2];decide)] at h
 split at h
 ·injection h with h
  rw[<-h]
  exact Blk.unpack_lt140 b
 ·unfold Bt.whole at h
  split at h
  ·next e he=>injection h with h;subst h;exact rows_lt140 h0 _ _ _ he
  ·split at h
   ·injection h with h;omega
   ·cases h
end Rd
end
end Go.Proofs.YtceomhodhmcknaaGreatDoor
