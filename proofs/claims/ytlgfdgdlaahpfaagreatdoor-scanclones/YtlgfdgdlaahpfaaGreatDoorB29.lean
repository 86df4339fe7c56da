import Derived.Test.YtlgfdgdlaahpfaaGreatDoorB01
import Derived.Deep.RegionLaw
namespace Go.Proofs.YtlgfdgdlaahpfaaGreatDoor
namespace Dv
structure St where
 b:L8
 most:Nat
 safe:Nat
 down:Bool
 bound:Bool
 after:Nat
 keep:Nat
 told:Nat
 done:Nat
def new(quota:Nat):St:=⟨[],quota,0,false,false,0,0,0,0⟩
def may(s:St):Bool:=!s.bound||decide (0<s.after)
def did(s:St):St:={ s with after:=if s.bound then s.after-1 else s.after,done:=s.done+1 }
def fails(s:St):St:={ s with b:=if s.keep<s.b.length-s.safe then s.b.take (s.safe+s.keep) else s.b,bound:=false,down:=true }
def lay:St->L8->Bool×St
 |s,[]=>(false,s)
 |s,c::r=>if may s then lay { did s with b:=s.b++[c] } r else (true,fails s)
def write(s:St)(l:L8):Nat×St :=
 if s.down then (50,s) else if l≠[]∧s.most<s.b.length+l.length then (52,s) else
  let r:=lay s l
  (if r.1 then 51 else 0,r.2)
def cut(s:St)(n:Int):Nat×St :=
 if s.down then (50,s) else if n<0∨(s.b.length:Int)<n then (7,s) else if may s then (0,{ did s with b:=s.b.take n.toNat,safe:=if n.toNat<s.safe then n.toNat else s.safe }) else (51,fails s)
def read(s:St)(a n:Int):L8×Nat×St :=
 if a<0∨(s.b.length:Int)<a∨n<0 then ([],7,s) else
  let l:=(s.b.drop a.toNat).take n.toNat
  (l,0,{ s with told:=s.told+l.length })
def fail(s:St)(after keep:Int):Nat×St:=if s.down then (50,s) else if after<0∨keep<0 then (1,s) else (0,{ s with bound:=true,after:=after.toNat,keep:=keep.toNat })
def tail(s:St)(l:L8):Nat×St:=if 2097152<s.b.length+l.length then (2,s) else (0,{ s with b:=s.b++l,safe:=(s.b++l).length })
def Sound(s:St):Prop:=s.safe<=s.b.length
def Keeps(s t:St)(all:L8):Prop:=s.b.take s.safe <+: t.b∧t.b <+: all∧Sound t∧t.most=s.most
structure Held(s t:St)(e:Nat)(all:L8):Prop where
 keeps:Keeps s t all
 room:s.b.length<=s.most->t.b.length<=t.most
 power:(e=51)↔(s.down=false∧t.down=true)
 space:e=52->t.b=s.b
theorem lay_free:∀(l:L8) (s:St),s.bound=false->lay s l=(false,{ s with b:=s.b++l,done:=s.done+l.length })
 | [],s,_=>by simp[lay]
 |c::r,s,h=>by
  rw[lay,if_pos (by simp[may,h]),lay_free r _ (by simp[did,h])]
  simp only[did,h,Bool.false_eq_true,if_false,List.append_assoc,List.cons_append,List.nil_append,List.length_cons]
  congr 2
  omega
end Dv
section
open Go.RowKit
def dy(v:Value)(s:Dv.St):AV:=#[v,.int .i64 s.most,.int .i64 s.safe,.bool s.down,.bool s.bound,.int .i64 s.after,.int .i64 s.keep,.int .i64 s.told,.int .i64 s.done]
structure cm(w:World)(B g:Nat)(v:Value)(s:Dv.St):Prop where
 lies:w.1[g]?=some (.cells (dy v s) 99999)
 has:Has w B v s.b
 base:B<=g
 apart:v.ownBlock≠some g
theorem cm.lt{w:World}{B g:Nat}{v:Value}{s:Dv.St}(h:cm w B g v s):g<w.1.size:=(Array.getElem?_eq_some_iff.1 h.lies).1
theorem cm.cell{w:World}{B g:Nat}{v:Value}{s:Dv.St}(h:cm w B g v s)(i:Nat):w.cell? ⟨g,i,none⟩=(dy v s)[i]?:=by
 unfold World.cell?
 rw[h.lies]
 rfl
theorem cm.thawed{w:World}{B g:Nat}{v:Value}{s:Dv.St}(h:cm w B g v s)(i:Nat):w.frozen? ⟨g,i,none⟩=false:=by
 simp[World.frozen?,h.lies]
theorem cm.put{w:World}{B g:Nat}{v:Value}{s s':Dv.St}(h:cm w B g v s)(i:Nat)(u:Value)(he:dy v s'=(dy v s).setIfInBounds i u)(hb:s'.b=s.b):cm (w.setCell ⟨g,i,none⟩ u) B g v s':=by
 have ha:Aside (·=g) w (w.setCell ⟨g,i,none⟩ u):=(Aside.refl (·=g) w).setCell (p:=⟨g,i,none⟩) (.inl rfl) u
 refine⟨?_,?_,h.base,h.apart⟩
 ·simp only[World.setCell,Array.getElem?_modify,h.lies,if_true,Option.map_some]
  rw[if_neg (by simp),he]
 ·rw[hb]
  exact h.has.aside ha (fun k hk hc=>h.apart (by rw[hk,hc]))
theorem cm.aside{w w':World}{B g:Nat}{v:Value}{s:Dv.St}{F:Nat->Prop}(h:cm w B g v s)(ha:Aside F w w')(hg:¬F g)(hv:∀k,v.ownBlock=some k->¬F k):cm w' B g v s :=
 ⟨by rw[ha.block g h.lt hg];exact h.lies,h.has.aside ha hv,h.base,h.apart⟩
section
variable {B g:Nat} {v:Value} {s:Dv.St} {w:World}
end
end
section
open Go.RowKit
theorem cm.drewN{w:World}{B g:Nat}{v:Value}{s:Dv.St}(h:cm w B g v s)(n:Nat):cm (w.drewN n) B g v s:=⟨h.lies,h.has,h.base,h.apart⟩
theorem cm.drew{w:World}{B g:Nat}{v:Value}{s:Dv.St}(h:cm w B g v s):cm w.drew B g v s:=⟨h.lies,h.has,h.base,h.apart⟩
theorem cm.swap{w w':World}{B g:Nat}{v u:Value}{s:Dv.St}{l:L8}(h:cm w B g v s)(hb:Below w.1.size w w')(hu:Has w' w.1.size u l)(hB:B<=w.1.size):
  cm (w'.setCell ⟨g,0,none⟩ u) B g u { s with b:=l }:=by
 have hg:=h.lt
 have hl:w'.1[g]?=some (.cells (dy v s) 99999):=by rw[hb.block g hg];exact h.lies
 have hne:u.ownBlock≠some g:=fun hc=>by have:=(hu.lt g hc).1;omega
 have ha:Aside (·=g) w' (w'.setCell ⟨g,0,none⟩ u):=(Aside.refl (·=g) w').setCell (p:=⟨g,0,none⟩) (.inl rfl) u
 refine⟨?_,(hu.low hB).aside ha (fun k hk hc=>hne (by rw[hk,hc])),h.base,hne⟩
 simp only[World.setCell,Array.getElem?_modify,hl,if_true,Option.map_some]
 rw[if_neg (by simp)]
 rfl
section
variable {B g:Nat} {v:Value} {s:Dv.St} {w:World}
end
end
section
open Go.RowKit
theorem Has.set{w:World}{B g cap:Nat}{l:L8}(h:Has w B (.slice (some ⟨g,0,none⟩) l.length cap) l)(i:Nat)(c:UInt8):Has (w.setCell ⟨g,i,none⟩ (.int .u8 (c.toNat:Int))) B (.slice (some ⟨g,0,none⟩) l.length cap) (l.set i c):=by
 have el:(l.set i c).length=l.length:=List.length_set
 unfold Has World.ownsRow
 rw[el]
 refine⟨by rw[aK,el,Nat.mul_one],?_⟩
 rcases h.2 with ⟨h1,_⟩ | ⟨g',cap',cur,h1,h2,h3,h4,h5,h6,h7⟩
 ·cases h1
 ·cases h1
  refine .inr ⟨g,cap,cur.setIfInBounds i (.int .u8 (c.toNat:Int)),rfl,h2,?_,h4,h5,by simpa using h6,?_⟩
  ·simp only[World.setCell,Array.getElem?_modify,h3,if_true,Option.map_some]
   rw[if_neg (by simp)]
  ·rw[Array.toList_setIfInBounds,List.take_set,h7]
   simp[cellsOf,List.map_set]
section
variable {B g:Nat} {v:Value} {s:Dv.St} {w:World}
end
end
section
open Go.RowKit
theorem ll{w w':World}{row:Option Nat}(hg:w.grownBy w' row):Aside (fun k=>row=some k) w w' :=
 ⟨hg.os,hg.tape,hg.output,hg.size,fun k hk hf=>hg.block k hk (fun e=>hf e.symm)⟩
theorem cm.push{w W:World}{B g g2 cap:Nat}{v:Value}{s:Dv.St}{l:L8}(h:cm w B g v s)(ha:Aside (fun k=>v.ownBlock=some k) w W)(hu:Has W B (.slice (some ⟨g2,0,none⟩) l.length cap) l)(hg2:v.ownBlock=some g2∨w.1.size<=g2):
  cm (W.setCell ⟨g,0,none⟩ (.slice (some ⟨g2,0,none⟩) l.length cap)) B g (.slice (some ⟨g2,0,none⟩) l.length cap) { s with b:=l }∧W.cell? ⟨g,0,none⟩=some v∧W.frozen? ⟨g,0,none⟩=false:=by
 have hlt:=h.lt
 have hl:W.1[g]?=some (.cells (dy v s) 99999):=by rw[ha.block g hlt h.apart];exact h.lies
 have hne:g2≠g:=by
  rcases hg2 with h1 | h1
  ·intro hc;exact h.apart (by rw[<-hc];exact h1)
  ·omega
 have ha2:Aside (·=g) W (W.setCell ⟨g,0,none⟩ (.slice (some ⟨g2,0,none⟩) l.length cap)):=(Aside.refl (·=g) W).setCell (p:=⟨g,0,none⟩) (.inl rfl) _
 refine⟨⟨?_,hu.aside ha2 (fun k hk hc=>?_),h.base,?_⟩,?_,?_⟩
 ·simp only[World.setCell,Array.getElem?_modify,hl,if_true,Option.map_some]
  rw[if_neg (by simp)]
  rfl
 ·simp only[Value.ownBlock,Option.some.injEq] at hk
  exact hne (hk.trans hc)
 ·simp only[Value.ownBlock,ne_eq,Option.some.injEq]
  exact hne
 ·rw[ha.cell (p:=⟨g,0,none⟩) hlt h.apart];exact h.cell 0
 ·rw[ha.frozen (p:=⟨g,0,none⟩) hlt h.apart];exact h.thawed 0
end
section
open Go.RowKit
section
variable {B g:Nat} {v:Value} {s:Dv.St} {w:World}
def iD(w:World)(B g:Nat)(v:Value)(q:OA)(n cap:Nat)(t:Dv.St)(wr:World):Prop :=
 cm wr B g (.slice q n cap) t∧n=t.b.length∧Aside (fun k=>k=g∨v.ownBlock=some k) w wr∧((Value.slice q n cap)=v∨∀k,(Value.slice q n cap).ownBlock=some k->v.ownBlock=some k∨w.1.size<=k)
theorem iD.next{w wr W:World}{B g g2 n cap cap2:Nat}{v:Value}{q:OA}{t:Dv.St}{c:UInt8}(h:iD w B g v q n cap t wr){wa:World}(hu:Has W B (.slice (some ⟨g2,0,none⟩) (t.b.length+1) cap2) (t.b++[c]))(ha:Aside (fun k=>(Value.slice q n cap).ownBlock=some k) wa W)(hg2:(Value.slice q n cap).ownBlock=some g2∨wa.1.size<=g2)(he:∃o,wa.1=wr.1.push o)(ho:wa.os=wr.os)(htp:wa.tape=wr.tape)(hou:wa.output=wr.output):
  iD w B g v (some ⟨g2,0,none⟩) (t.b.length+1) cap2 { t with b:=t.b++[c] } (W.setCell ⟨g,0,none⟩ (.slice (some ⟨g2,0,none⟩) (t.b.length+1) cap2))∧W.cell? ⟨g,0,none⟩=some (.slice q n cap)∧W.frozen? ⟨g,0,none⟩=false:=by
 obtain⟨h1,h2,h3,h4⟩:=h
 obtain⟨ob,he⟩:=he
 have hsz:wa.1.size=wr.1.size+1:=by rw[he,Array.size_push]
 have hwa:Aside (fun k=>(Value.slice q n cap).ownBlock=some k) wr wa:=⟨ho,htp,hou,by omega,fun k hk _=>by rw[he,Array.getElem?_push,if_neg (by omega)]⟩
 have hrW:=hwa.trans ha (fun _ _ h=>h)
 have el:(t.b++[c]).length=t.b.length+1:=by simp
 rw[<-el] at hu ⊢
 obtain⟨r1,r2,r3⟩:=h1.push hrW hu (by rcases hg2 with h | h;exact .inl h;exact .inr (by omega))
 refine⟨⟨r1,rfl,?_,.inr fun k hk=>?_⟩,r2,r3⟩
 ·refine(h3.trans hrW ?_).setCell (.inl (.inl rfl)) _
  intro k hk hkb
  rcases h4 with h4 | h4
  ·right;rw[<-h4];exact hkb
  ·rcases h4 k hkb with h5 | h5
   ·exact .inr h5
   ·omega
 ·simp only[Value.ownBlock,Option.some.injEq] at hk
  subst hk
  rcases hg2 with h5 | h5
  ·rcases h4 with h4 | h4
   ·left;rw[<-h4];exact h5
   ·exact h4 _ h5
  ·right
   have:=h3.size
   omega
end
end
section
open Go.RowKit
theorem cm.below{w w':World}{B g:Nat}{v:Value}{s:Dv.St}(h:cm w B g v s)(hb:Below w.1.size w w'):cm w' B g v s :=
 h.aside (F:=fun _=>False) (ae hb _) (fun h=>h) (fun _ _ h=>h)
section
variable {B g:Nat} {v:Value} {s:Dv.St} {w:World}
end
end
end Go.Proofs.YtlgfdgdlaahpfaaGreatDoor
