import Derived.Test.YtlgfdgdlaahpfaaGreatDoorB10
set_option maxHeartbeats 2000000
namespace Go.Proofs.YtlgfdgdlaahpfaaGreatDoor
section
open Go.RowKit
end
section
open Go.RowKit
attribute [local go_sem] ai
theorem et(w:World)(o o2:Obj):((w.alloc o).alloc o2).1[w.1.size]?=some o:=by rw[aD _ _ (by simp)];exact ag w o
end
section
open Go.RowKit
attribute [local go_sem] ai
def glue(ys:List V)(n:Nat):Except Nat (List V×Nat)->Except Nat (List V×Nat)
 |.error e=>.error e
 |.ok (vs,k)=>.ok (ys++vs,n+k)
theorem oL(ys:List V)(n:Nat)(v:V)(j:Nat)(r:Except Nat (List V×Nat)):glue ys n (glue [v] j r)=glue (ys++[v]) (n+j) r:=by
 cases r with
 |error e=>rfl
 |ok p=>simp[glue,Nat.add_assoc]
def pB(f:L8->Except Nat (V×Nat))(m:Nat)(l:L8):Except Nat (V×Nat)->Except Nat (List V×Nat)
 |.error e=>.error e
 |.ok (v,j)=>glue [v] j (Sch.rdN f m (l.drop j))
theorem kD(f:L8->Except Nat (V×Nat))(m:Nat)(l:L8):Sch.rdN f (m+1) l=pB f m l (f l):=by
 rw[Sch.rdN]
 cases f l with
 |error e=>rfl
 |ok p=>
  obtain⟨v,j⟩:=p
  rw[pB]
  dsimp only
  cases Sch.rdN f m (l.drop j) with
  |error e=>rfl
  |ok q=>rfl
theorem mU(w:World)(o o2:Obj):((w.alloc o).alloc o2).1[w.1.size+1]?=some o2:=by
 have:=ag (w.alloc o) o2
 simpa using this
structure fz(w:World)(C0:AV)(k:Int)(ys:List V)(v:Value)(wr:World):Prop where
 built:∃us Fs,bG wr (w.1.size+3) v ys.length us Fs ys
 b0:wr.1[w.1.size]?=some (.cells C0 83 (0,0))
 b1:wr.1[w.1.size+1]?=some (.cells (cells5 0 0 0 ⟨#[]⟩ none 0 0) 87 (0,0))
 b2:wr.1[w.1.size+2]?=some (.cells #[.int .i64 k,.int .i64 0,.float .f64 0,.string ⟨#[]⟩,v] 87 (0,0))
 below:Below w.1.size w wr
 size:w.1.size+3<=wr.1.size
section
variable {w wr:World} {C0:AV} {k:Int} {ys:List V} {v:Value}
theorem fz.slice(h:fz w C0 k ys v wr):∃p c,v=.slice p ys.length c:=by
 obtain⟨us,Fs,hb⟩:=h.built
 rcases hb.row.2 with ⟨h1,h2⟩ | ⟨g,cap,cur,h1,_⟩
 ·exact⟨none,0,by rw[h1,h2]⟩
 ·exact⟨_,cap,h1⟩
theorem fz.next{w2 w3 w4:World}{u:AV}{F:Nat->Prop}{g cap:Nat}{us:Nat->AV}{Fs:Nat->Nat->Prop}{y:V}(h:fz w C0 k ys v wr)(hbt:bG wr (w.1.size+3) v ys.length us Fs ys)(hb:Below wr.1.size wr w2)(hx:br w2 F u y)(hF:∀k,F k->wr.1.size<=k∧k<w2.1.size)(hb3:Below w2.1.size w2 w3)(hr:w4.ownsRow (w.1.size+3) 87 5 (.slice (some ⟨g,0,none⟩) (ys.length+1) cap) (ys.length+1) (flat us ys.length++u.toList))(hg:w3.grownBy w4 v.ownBlock)(hn:v.ownBlock=some g∨g=w3.1.size):
  (∀n,n<3->w4.1[w.1.size+n]?=wr.1[w.1.size+n]?)∧fz w C0 k (ys++[y]) (.slice (some ⟨g,0,none⟩) (ys.length+1) cap) (w4.setCell ⟨w.1.size+2,4,none⟩ (.slice (some ⟨g,0,none⟩) (ys.length+1) cap)):=by
 have hs:=h.size
 have hs2:=hb.size
 have hs3:=hb3.size
 have hst:=hbt.step hb hx hF hb3 hs hr hg hn
 have hold:∀n,n<3->w4.1[w.1.size+n]?=wr.1[w.1.size+n]?:=fun n hn=>by
  rw[hg.block _ (by omega) (fun hc=>by have:=(hbt.lt _ hc.symm).1;omega),hb3.block _ (by omega),hb.block _ (by omega)]
 have hb4:Below w.1.size w w4:=((h.below.trans (hb.mono (by omega))).trans (hb3.mono (by omega))).grown hg (by omega) (fun k hk=>by have:=(hbt.lt k hk).1;omega)
 refine⟨hold,⟨⟨(fun n=>if n=ys.length then u else us n),(fun n=>if n=ys.length then F else Fs n),?_⟩,?_,?_,?_,?_,?_⟩⟩
 ·rw[List.length_append,List.length_singleton]
  exact hst.set ⟨w.1.size+2,4,none⟩ _ (by show w.1.size+2<_;omega)
 ·have:=hold 0 (by omega)
  rw[Nat.add_zero] at this
  exact cd (this.trans h.b0) _ _ (by show w.1.size≠w.1.size+2;omega)
 ·exact cd ((hold 1 (by omega)).trans h.b1) _ _ (by show w.1.size+1≠w.1.size+2;omega)
 ·rw[ap ((hold 2 (by omega)).trans h.b2)]
  rfl
 ·exact hb4.setCell (by show w.1.size<=w.1.size+2;omega) _
 ·have:=hg.size
  simp[World.setCell]
  omega
end
end
section
open Go.RowKit
end
section
open Go.RowKit
attribute [local go_sem] ai
def mh(w:World)(g:Nat)(n:ByteArray)(k:Int)(s:Value)(h:Bool)(vk vi:Int)(vb:Nat)(vt:ByteArray)(vs:Value):World :=
 ((((((((w.setCell ⟨g,0,none⟩ (.string n)).setCell ⟨g,1,none⟩ (.int .i64 k)).setCell ⟨g,2,none⟩ s).setCell ⟨g,3,none⟩ (.bool h)).setCell ⟨g,4,none⟩ (.int .i64 vk)).setCell ⟨g,5,none⟩ (.int .i64 vi)).setCell ⟨g,6,none⟩ (.float .f64 vb)).setCell ⟨g,7,none⟩ (.string vt)).setCell ⟨g,8,none⟩ vs
theorem pZ{w w1:World}{n:ByteArray}{k:Int}{tp:OA}{tn tc:Nat}{h:Bool}{vk vi:Int}{vb:Nat}{vt:ByteArray}{vp:OA}{vn vc:Nat}{c:Col}{F:Nat->Prop}(h1:w1.1[w.1.size]?=some (.cells (aA ⟨#[]⟩ 0 none 0 0 false 0 0 0 ⟨#[]⟩ none 0 0) 89 (0,0)))(hb:Below w.1.size w w1)(hs:w.1.size+1<=w1.1.size)(hv:cN w1 F (aA n k tp tn tc h vk vi vb vt vp vn vc) c)(hF:∀j,F j->w.1.size+1<=j∧j<w1.1.size):
  (mh w1 w.1.size n k (.slice tp tn tc) h vk vi vb vt (.slice vp vn vc)).1[w.1.size]?=some (.cells (aA n k tp tn tc h vk vi vb vt vp vn vc) 89 (0,0))∧cN (mh w1 w.1.size n k (.slice tp tn tc) h vk vi vb vt (.slice vp vn vc)) (fun j=>w.1.size<=j∧j<(mh w1 w.1.size n k (.slice tp tn tc) h vk vi vb vt (.slice vp vn vc)).1.size) (aA n k tp tn tc h vk vi vb vt vp vn vc) c∧Below w.1.size w (mh w1 w.1.size n k (.slice tp tn tc) h vk vi vb vt (.slice vp vn vc)):=by
 have a0:=Aside.refl (fun k=>k=w.1.size) w1
 have a1:=a0.setCell (p:=⟨w.1.size,0,none⟩) (.inl rfl) (.string n)
 have a2:=a1.setCell (p:=⟨w.1.size,1,none⟩) (.inl rfl) (.int .i64 k)
 have a3:=a2.setCell (p:=⟨w.1.size,2,none⟩) (.inl rfl) (.slice tp tn tc)
 have a4:=a3.setCell (p:=⟨w.1.size,3,none⟩) (.inl rfl) (.bool h)
 have a5:=a4.setCell (p:=⟨w.1.size,4,none⟩) (.inl rfl) (.int .i64 vk)
 have a6:=a5.setCell (p:=⟨w.1.size,5,none⟩) (.inl rfl) (.int .i64 vi)
 have a7:=a6.setCell (p:=⟨w.1.size,6,none⟩) (.inl rfl) (.float .f64 vb)
 have a8:=a7.setCell (p:=⟨w.1.size,7,none⟩) (.inl rfl) (.string vt)
 have a9:=a8.setCell (p:=⟨w.1.size,8,none⟩) (.inl rfl) (.slice vp vn vc)
 have hA:Aside (fun k=>k=w.1.size) w1 (mh w1 w.1.size n k (.slice tp tn tc) h vk vi vb vt (.slice vp vn vc)):=a9
 clear a0 a1 a2 a3 a4 a5 a6 a7 a8 a9
 have b0:w1.1[w.1.size]?=some (.cells (aA ⟨#[]⟩ 0 none 0 0 false 0 0 0 ⟨#[]⟩ none 0 0) 89 (0,0)):=h1
 have b1:(w1.setCell ⟨w.1.size,0,none⟩ (.string n)).1[w.1.size]?=some (.cells (aA n 0 none 0 0 false 0 0 0 ⟨#[]⟩ none 0 0) 89 (0,0)):=ap b0 0 (.string n)
 have b2:((w1.setCell ⟨w.1.size,0,none⟩ (.string n)).setCell ⟨w.1.size,1,none⟩ (.int .i64 k)).1[w.1.size]?=some (.cells (aA n k none 0 0 false 0 0 0 ⟨#[]⟩ none 0 0) 89 (0,0)):=ap b1 1 (.int .i64 k)
 have b3:(((w1.setCell ⟨w.1.size,0,none⟩ (.string n)).setCell ⟨w.1.size,1,none⟩ (.int .i64 k)).setCell ⟨w.1.size,2,none⟩ (.slice tp tn tc)).1[w.1.size]?=some (.cells (aA n k tp tn tc false 0 0 0 ⟨#[]⟩ none 0 0) 89 (0,0)):=ap b2 2 (.slice tp tn tc)
 have b4:((((w1.setCell ⟨w.1.size,0,none⟩ (.string n)).setCell ⟨w.1.size,1,none⟩ (.int .i64 k)).setCell ⟨w.1.size,2,none⟩ (.slice tp tn tc)).setCell ⟨w.1.size,3,none⟩ (.bool h)).1[w.1.size]?=some (.cells (aA n k tp tn tc h 0 0 0 ⟨#[]⟩ none 0 0) 89 (0,0)):=ap b3 3 (.bool h)
 have b5:(((((w1.setCell ⟨w.1.size,0,none⟩ (.string n)).setCell ⟨w.1.size,1,none⟩ (.int .i64 k)).setCell ⟨w.1.size,2,none⟩ (.slice tp tn tc)).setCell ⟨w.1.size,3,none⟩ (.bool h)).setCell ⟨w.1.size,4,none⟩ (.int .i64 vk)).1[w.1.size]?=some (.cells (aA n k tp tn tc h vk 0 0 ⟨#[]⟩ none 0 0) 89 (0,0)):=ap b4 4 (.int .i64 vk)
 have b6:((((((w1.setCell ⟨w.1.size,0,none⟩ (.string n)).setCell ⟨w.1.size,1,none⟩ (.int .i64 k)).setCell ⟨w.1.size,2,none⟩ (.slice tp tn tc)).setCell ⟨w.1.size,3,none⟩ (.bool h)).setCell ⟨w.1.size,4,none⟩ (.int .i64 vk)).setCell ⟨w.1.size,5,none⟩ (.int .i64 vi)).1[w.1.size]?=some (.cells (aA n k tp tn tc h vk vi 0 ⟨#[]⟩ none 0 0) 89 (0,0)):=ap b5 5 (.int .i64 vi)
 have b7:(((((((w1.setCell ⟨w.1.size,0,none⟩ (.string n)).setCell ⟨w.1.size,1,none⟩ (.int .i64 k)).setCell ⟨w.1.size,2,none⟩ (.slice tp tn tc)).setCell ⟨w.1.size,3,none⟩ (.bool h)).setCell ⟨w.1.size,4,none⟩ (.int .i64 vk)).setCell ⟨w.1.size,5,none⟩ (.int .i64 vi)).setCell ⟨w.1.size,6,none⟩ (.float .f64 vb)).1[w.1.size]?=some (.cells (aA n k tp tn tc h vk vi vb ⟨#[]⟩ none 0 0) 89 (0,0)):=ap b6 6 (.float .f64 vb)
 have b8:((((((((w1.setCell ⟨w.1.size,0,none⟩ (.string n)).setCell ⟨w.1.size,1,none⟩ (.int .i64 k)).setCell ⟨w.1.size,2,none⟩ (.slice tp tn tc)).setCell ⟨w.1.size,3,none⟩ (.bool h)).setCell ⟨w.1.size,4,none⟩ (.int .i64 vk)).setCell ⟨w.1.size,5,none⟩ (.int .i64 vi)).setCell ⟨w.1.size,6,none⟩ (.float .f64 vb)).setCell ⟨w.1.size,7,none⟩ (.string vt)).1[w.1.size]?=some (.cells (aA n k tp tn tc h vk vi vb vt none 0 0) 89 (0,0)):=ap b7 7 (.string vt)
 have b9:(((((((((w1.setCell ⟨w.1.size,0,none⟩ (.string n)).setCell ⟨w.1.size,1,none⟩ (.int .i64 k)).setCell ⟨w.1.size,2,none⟩ (.slice tp tn tc)).setCell ⟨w.1.size,3,none⟩ (.bool h)).setCell ⟨w.1.size,4,none⟩ (.int .i64 vk)).setCell ⟨w.1.size,5,none⟩ (.int .i64 vi)).setCell ⟨w.1.size,6,none⟩ (.float .f64 vb)).setCell ⟨w.1.size,7,none⟩ (.string vt)).setCell ⟨w.1.size,8,none⟩ (.slice vp vn vc)).1[w.1.size]?=some (.cells (aA n k tp tn tc h vk vi vb vt vp vn vc) 89 (0,0)):=ap b8 8 (.slice vp vn vc)
 refine⟨b9,?_,?_⟩
 ·exact(hv.aside hA (fun k hk hc=>by have:=hF k hk;omega)).mono (fun j hj=>⟨by have:=hF j hj;omega,by have:=hF j hj;have:=hA.size;omega⟩)
 ·exact hb.trans (hA.below (by omega) (fun k hk hc=>by omega))
end
section
open Go.RowKit
attribute [local go_sem] ai
def uY(w:World)(r:Except Nat (List Col))(e:Ending)(w':World):Prop:=match r with
 |.error er=>e=.returned (.tuple #[.agg #[.slice none 0 0],.int .i64 (er:Nat)])∧Below w.1.size w w'
 |.ok s=>∃u,e=.returned (.tuple #[.agg u,.int .i64 0])∧cL w' w.1.size u s∧Below w.1.size w w'
def shift(n:Nat):Except Nat (List Col×Nat)->Except Nat (List Col×Nat)
 |.error e=>.error e
 |.ok (s,k)=>.ok (s,n+k)
def pC(m:Nat)(s:List Col)(b:L8):Except Nat (Col×Nat)->Except Nat (List Col×Nat)
 |.error e=>.error e
 |.ok (c,j)=>shift j (Sch.rdCs m (s++[c]) (b.drop j))
theorem je(m:Nat)(s:List Col)(b:L8):Sch.rdCs (m+1) s b=pC m s b (Sch.rdC s b):=by
 rw[Sch.rdCs]
 cases Sch.rdC s b with
 |error e=>rfl
 |ok p=>
  obtain⟨c,j⟩:=p
  rw[pC]
  dsimp only
  cases Sch.rdCs m (s++[c]) (b.drop j) with
  |error e=>rfl
  |ok q=>rfl
theorem kt(n j:Nat)(r:Except Nat (List Col×Nat)):shift n (shift j r)=shift (n+j) r:=by
 cases r with
 |error e=>rfl
 |ok p=>simp[shift,Nat.add_assoc]
structure j5(w:World)(s:List Col)(v:Value)(wr:World):Prop where
 built:∃us Fs,aL wr (w.1.size+1) v s.length us Fs s
 b0:wr.1[w.1.size]?=some (.cells #[.slice none 0 0] 30 (0,0))
 below:Below w.1.size w wr
 size:w.1.size+1<=wr.1.size
theorem j5.next{w wr w2 w3 w4:World}{s:List Col}{v:Value}{u:AV}{F:Nat->Prop}{g cap:Nat}{us:Nat->AV}{Fs:Nat->Nat->Prop}{y:Col}(h:j5 w s v wr)(hbt:aL wr (w.1.size+1) v s.length us Fs s)(hb:Below wr.1.size wr w2)(hx:cN w2 F u y)(hF:∀k,F k->wr.1.size<=k∧k<w2.1.size)(hb3:Below w2.1.size w2 w3)(hr:w4.ownsRow (w.1.size+1) 89 9 (.slice (some ⟨g,0,none⟩) (s.length+1) cap) (s.length+1) (flat us s.length++u.toList))(hg:w3.grownBy w4 v.ownBlock)(hn:v.ownBlock=some g∨g=w3.1.size):
  j5 w (s++[y]) (.slice (some ⟨g,0,none⟩) (s.length+1) cap) w4:=by
 have hs:=h.size
 have hs2:=hb.size
 have hs3:=hb3.size
 have hst:=hbt.step hb hx hF hb3 hs hr hg hn
 have hb4:Below w.1.size w w4:=((h.below.trans (hb.mono (by omega))).trans (hb3.mono (by omega))).grown hg (by omega) (fun k hk=>by have:=(hbt.lt k hk).1;omega)
 refine⟨⟨(fun n=>if n=s.length then u else us n),(fun n=>if n=s.length then F else Fs n),?_⟩,?_,hb4,?_⟩
 ·rw[List.length_append,List.length_singleton]
  exact hst
 ·rw[hg.block _ (by omega) (fun hc=>by have:=(hbt.lt _ hc.symm).1;omega),hb3.block _ (by omega),hb.block _ (by omega)]
  exact h.b0
 ·have:=hg.size
  omega
end
section
open Go.RowKit
theorem jr(us:Nat->AV):∀n,(∀j,j<n->(us j).size=2)->(flat us n).length=n*2
 |0,_=>by simp[flat]
 |n+1,h=>by
  rw[flat,List.length_append,jr us n fun j hj=>h j (by omega),Array.length_toList,h n (by omega)];omega
theorem js(us:Nat->AV):∀n,(∀j,j<n->(us j).size=2)->∀j,j<n->∀m,m<2->(flat us n)[j*2+m]?=(us j)[m]?
 |0,_,j,hj,_,_=>by omega
 |n+1,h,j,hj,m,hm=>by
  have hl:=jr us n fun j hj=>h j (by omega)
  rw[flat]
  rcases Nat.lt_or_ge j n with h1 | h1
  ·rw[List.getElem?_append_left (by omega),js us n (fun j hj=>h j (by omega)) j h1 m hm]
  ·have hjn:j=n:=by omega
   subst hjn
   rw[List.getElem?_append_right (by omega),hl,Nat.add_sub_cancel_left]
   simp
def sO:Value:=.agg (al 0 none 0 0)
theorem tP:(Tryz.prog.info? 83).map (fun i=>(i.zero,i.size,i.bytes))=some (some sO,2,32):=by kernel_rfl
theorem ve{w:World}{F:Nat->Prop}{u:AV}{x:Ty}(h:aZ w F u x):∀a∈u.toList,a.oneCell'=true:=by
 obtain⟨k,p,n,c,rfl⟩:=h.shape
 intro a ha
 simp[al] at ha
 rcases ha with rfl | rfl <;> rfl
section
variable {B:Nat} {v:Value} {n:Nat} {us:Nat->AV} {w:World} {u:AV} {ad H:Nat}
theorem lG(hown:w.ownsRow B 83 2 v n (flat us n))(h5:u.size=2)(h1:∀a∈u.toList,a.oneCell'=true)(hblk:w.1[ad]?=some (.cells u 83 (0,0)))(hn:(n+1)*32<=140737488355328)(hB:B<=w.1.size)(hH:w.1.size=H){ops:Array Oper}{o:Oper}{a:Act}{K:Act->World->Prop}{Q:Exit->Act->World->Prop}{E:Prop}(y x:Operand)(hg:o.guard=none)(hop:o.op=Op.call { callee:=Callee.builtin Builtin.append,args:=#[y,x],argTypes:=#[81,81] })(hs:a.eval y=v)(hx:a.eval x=.slice (some ⟨ad,0,none⟩) 1 1)(hK:∀g cap w',w'.ownsRow B 83 2 (.slice (some ⟨g,0,none⟩) (n+1) cap) (n+1) (flat us n++u.toList)->w.grownBy w' v.ownBlock->(v.ownBlock=some g∨g=H)->K (a.put o.dst (.slice (some ⟨g,0,none⟩) (n+1) cap)) w'):
  if Region.wanted o (yielded ops a.tmps)=true then Oper.wp Tryz.prog o a w K Q else E:=by
 obtain⟨i,hi,hz,hsz,hby⟩:=info_parts tP
 exact step_append_lies w hg y x 81 hop B 83 i sO 2 32 Tryz.underlying81 hi hz hsz hby rfl (by decide) v n (flat us n) hs hown ⟨ad,0,none⟩ 1 1 u.toList hx (by simp[h5])
  (World.news_of_block hblk) h1 (by decide) (by unfold maxLen;omega) hn hB H hH fun g cap w' h2 h3 h4 _=>hK g cap w' h2 h3 h4
end
structure bA(w:World)(B:Nat)(v:Value)(n:Nat)(us:Nat->AV)(Fs:Nat->Nat->Prop)(ys:List Ty):Prop where
 len:ys.length=n
 five:∀j,j<n->(us j).size=2
 row:w.ownsRow B 83 2 v n (flat us n)
 own:∀j (h:j<ys.length),aZ w (Fs j) (us j) ys[j]
 apart:∀j m,j<n->m<n->j≠m->∀k,Fs j k->¬Fs m k
 beside:∀g,v.ownBlock=some g->∀j,j<n->¬Fs j g
 range:∀j,j<n->∀k,Fs j k->B<=k∧k<w.1.size
theorem gO(w:World)(B:Nat):bA w B (.slice none 0 0) 0 (fun _=>#[]) (fun _ _=>False) [] :=
 ⟨rfl,fun j hj=>by omega,World.ownsRow_nil _ _ _ _,fun j hj=>by simp at hj,fun j m hj=>by omega,fun g hg=>by simp[Value.ownBlock] at hg,fun j hj=>by omega⟩
section
variable {w w':World} {B:Nat} {v:Value} {n:Nat} {us:Nat->AV} {Fs:Nat->Nat->Prop} {ys:List Ty}
theorem bA.aside{G:Nat->Prop}(h:bA w B v n us Fs ys)(ha:Aside G w w')(h1:∀g,v.ownBlock=some g->¬G g)(h2:∀j,j<n->∀k,Fs j k->¬G k):bA w' B v n us Fs ys:=by
 refine⟨h.len,h.five,?_,fun j hj=>(h.own j hj).aside ha (h2 j (by rw[<-h.len];exact hj)),h.apart,h.beside,fun j hj k hk=>⟨(h.range j hj k hk).1,Nat.lt_of_lt_of_le (h.range j hj k hk).2 ha.size⟩⟩
 refine⟨h.row.1,?_⟩
 rcases h.row.2 with h3 | ⟨g,cap,cur,rfl,h4,h5,h6⟩
 ·exact .inl h3
 ·exact .inr ⟨g,cap,cur,rfl,h4,by rw[ha.block g (Array.getElem?_eq_some_iff.1 h5).1 (h1 g rfl)];exact h5,h6⟩
theorem bA.lt(h:bA w B v n us Fs ys):∀g,v.ownBlock=some g->B<=g∧g<w.1.size:=World.ownsRow.lt h.row
theorem bA.on(h:bA w B v n us Fs ys)(hb:Below w.1.size w w'):bA w' B v n us Fs ys :=
 h.aside (ae hb (fun _=>False)) (fun _ _ hc=>hc) (fun _ _ _ _ hc=>hc)
theorem bA.set(h:bA w B v n us Fs ys)(p:Addr)(u:Value)(hp:p.block<B):bA (w.setCell p u) B v n us Fs ys :=
 h.aside (G:=fun k=>k=p.block) ((Aside.refl (fun k=>k=p.block) w).setCell (p:=p) (.inl rfl) u) (fun g hg hc=>by have:=(h.lt g hg).1;omega) (fun j hj k hk hc=>by have:=(h.range j hj k hk).1;omega)
theorem bA.step{w2 w3 w4:World}{u:AV}{F:Nat->Prop}{x:Ty}{g cap:Nat}(h:bA w B v n us Fs ys)(hb:Below w.1.size w w2)(hx:aZ w2 F u x)(hF:∀k,F k->w.1.size<=k∧k<w2.1.size)(hb3:Below w2.1.size w2 w3)(hB:B<=w.1.size)(hr:w4.ownsRow B 83 2 (.slice (some ⟨g,0,none⟩) (n+1) cap) (n+1) (flat us n++u.toList))(hg:w3.grownBy w4 v.ownBlock)(hn:v.ownBlock=some g∨g=w3.1.size):
  bA w4 B (.slice (some ⟨g,0,none⟩) (n+1) cap) (n+1) (fun j=>if j=n then u else us j) (fun j=>if j=n then F else Fs j) (ys++[x]):=by
 have hs:=hb.size
 have hs3:=hb3.size
 have ha:Aside (fun k=>v.ownBlock=some k) w2 w4:=by
  refine(ae hb3 _).trans (G:=fun k=>v.ownBlock=some k) ⟨hg.os,hg.tape,hg.output,hg.size,fun k hk hf=>hg.block k hk (fun hc=>hf hc.symm)⟩ (fun _ _ h=>h)
 have hgF:∀k,F k->¬v.ownBlock=some k:=fun k hk hc=>by have:=(h.lt k hc).2;have:=(hF k hk).1;omega
 have hn1:∀j,j<n+1->j≠n->j<n:=fun j h1 h2=>by omega
 refine⟨by rw[List.length_append,h.len];rfl,fun j hj=>?_,?_,fun j hj=>?_,fun j m hj hm hjm k hk=>?_,fun g' hg' j hj=>?_,fun j hj k hk=>?_⟩
 ·split
  ·exact hx.five
  ·exact h.five j (by omega)
 ·rw[flat,dJ _ us n (fun j hj=>by simp[show ¬j=n by omega])]
  simpa using hr
 ·rw[List.length_append,h.len,List.length_singleton] at hj
  by_cases hjn:j=n
  ·subst hjn
   rw[if_pos rfl,if_pos rfl,List.getElem_append_right (by rw[h.len];exact vX)]
   simp only[h.len,Nat.sub_self,List.getElem_singleton]
   exact hx.aside ha hgF
  ·rw[if_neg hjn,if_neg hjn,List.getElem_append_left (by rw[h.len];omega)]
   exact((h.own j (by rw[h.len];omega)).under hb (fun k hk=>(h.range j (by omega) k hk).2)).aside ha (fun k hk hc=>h.beside k hc j (by omega) hk)
 ·by_cases hjn:j=n
  ·rw[if_pos hjn] at hk
   rw[if_neg (by omega)]
   exact fun hc=>by have:=(h.range m (by omega) k hc).2;have:=(hF k hk).1;omega
  ·rw[if_neg hjn] at hk
   by_cases hmn:m=n
   ·rw[if_pos hmn]
    exact fun hc=>by have:=(h.range j (by omega) k hk).2;have:=(hF k hc).1;omega
   ·rw[if_neg hmn]
    exact h.apart j m (by omega) (by omega) hjm k hk
 ·simp only[Value.ownBlock,Option.some.injEq] at hg'
  subst hg'
  by_cases hjn:j=n
  ·rw[if_pos hjn]
   intro hc
   have:=hF _ hc
   rcases hn with hn | hn
   ·exact hgF _ hc hn
   ·omega
  ·rw[if_neg hjn]
   intro hc
   rcases hn with hn | hn
   ·exact h.beside _ hn j (by omega) hc
   ·have:=(h.range j (by omega) _ hc).2;omega
 ·have h4:=ha.size
  by_cases hjn:j=n
  ·rw[if_pos hjn] at hk
   have:=hF k hk;omega
  ·rw[if_neg hjn] at hk
   have:=h.range j (by omega) k hk;omega
theorem bA.done(h:bA w B v n us Fs ys)(hl:n*32<=140737488351232)(k:Int):∃p c,v=.slice p n c∧aZ w (fun k=>B<=k∧k<w.1.size) (al k p n c) (.mk k ys):=by
 rcases h.row.2 with ⟨rfl,h0⟩ | ⟨g,cap,cur,rfl,h1,h2,h3,h4,h5,h6⟩
 ·have hy:ys=[]:=List.eq_nil_of_length_eq_zero (by rw[h.len];exact h0)
  subst hy
  subst h0
  exact⟨none,0,rfl,.none⟩
 ·refine⟨_,cap,rfl,?_⟩
  have hg:=(Array.getElem?_eq_some_iff.1 h2).1
  have hlen:=h.len
  have hcell:∀q,q<n*2->w.cell? ⟨g,q,none⟩=(flat us n)[q]?:=fun q hq=>by
   rw[<-h6,List.getElem?_take_of_lt hq]
   simp[World.cell?,h2]
  subst hlen
  refine .some us Fs hl h3 h.five ⟨hg,fun j hj m hm=>?_⟩ (fun j hj m hm=>by simp[World.frozen?,h2]) ⟨h1,hg⟩ (fun j hj=>h.beside g rfl j hj) h.apart (fun j hj k hk=>h.range j hj k hk) h.own
  rw[Nat.zero_add,hcell _ (by omega),js us _ h.five j hj m hm]
end
structure fA(w:World)(C0:AV)(k:Int)(zs:List Ty)(j:Nat)(v:Value)(wr:World):Prop where
 built:∃us Fs,bA wr (w.1.size+3) v j us Fs (zs.take j)
 b0:wr.1[w.1.size]?=some (.cells C0 83 (0,0))
 b1:wr.1[w.1.size+1]?=some (.cells (al 0 none 0 0) 83 (0,0))
 b2:wr.1[w.1.size+2]?=some (.cells #[.int .i64 k,v] 83 (0,0))
 below:Below w.1.size w wr
 size:w.1.size+3<=wr.1.size
section
variable {w wr:World} {C0:AV} {k:Int} {zs:List Ty} {j:Nat} {v:Value}
theorem fA.slice(h:fA w C0 k zs j v wr):∃p c,v=.slice p j c:=by
 obtain⟨us,Fs,hb⟩:=h.built
 rcases hb.row.2 with ⟨h1,h2⟩ | ⟨g,cap,cur,h1,_⟩
 ·exact⟨none,0,by rw[h1,h2]⟩
 ·exact⟨_,cap,h1⟩
theorem fA.next{w2 w3 w4:World}{u:AV}{F:Nat->Prop}{g cap:Nat}{us:Nat->AV}{Fs:Nat->Nat->Prop}(h:fA w C0 k zs j v wr)(hbt:bA wr (w.1.size+3) v j us Fs (zs.take j))(hj:j<zs.length)(hb:Below wr.1.size wr w2)(hx:aZ w2 F u zs[j])(hF:∀k,F k->wr.1.size<=k∧k<w2.1.size)(hb3:Below w2.1.size w2 w3)(hr:w4.ownsRow (w.1.size+3) 83 2 (.slice (some ⟨g,0,none⟩) (j+1) cap) (j+1) (flat us j++u.toList))(hg:w3.grownBy w4 v.ownBlock)(hn:v.ownBlock=some g∨g=w3.1.size):
  Below w.1.size w w4∧(∀n,n<3->w4.1[w.1.size+n]?=wr.1[w.1.size+n]?)∧fA w C0 k zs (j+1) (.slice (some ⟨g,0,none⟩) (j+1) cap) (w4.setCell ⟨w.1.size+2,1,none⟩ (.slice (some ⟨g,0,none⟩) (j+1) cap)):=by
 have hs:=h.size
 have hs2:=hb.size
 have hs3:=hb3.size
 have hst:=hbt.step hb hx hF hb3 hs hr hg hn
 have hold:∀n,n<3->w4.1[w.1.size+n]?=wr.1[w.1.size+n]?:=fun n hn=>by
  rw[hg.block _ (by omega) (fun hc=>by have:=(hbt.lt _ hc.symm).1;omega),hb3.block _ (by omega),hb.block _ (by omega)]
 have hb4:Below w.1.size w w4:=((h.below.trans (hb.mono (by omega))).trans (hb3.mono (by omega))).grown hg (by omega) (fun k hk=>by have:=(hbt.lt k hk).1;omega)
 refine⟨hb4,hold,⟨⟨(fun n=>if n=j then u else us n),(fun n=>if n=j then F else Fs n),?_⟩,?_,?_,?_,?_,?_⟩⟩
 ·rw[List.take_succ_eq_append_getElem hj]
  exact hst.set ⟨w.1.size+2,1,none⟩ _ (by show w.1.size+2<_;omega)
 ·have:=hold 0 (by omega)
  rw[Nat.add_zero] at this
  exact cd (this.trans h.b0) _ _ (by show w.1.size≠w.1.size+2;omega)
 ·exact cd ((hold 1 (by omega)).trans h.b1) _ _ (by show w.1.size+1≠w.1.size+2;omega)
 ·rw[ap ((hold 2 (by omega)).trans h.b2)]
  rfl
 ·exact hb4.setCell (by show w.1.size<=w.1.size+2;omega) _
 ·have:=hg.size
  simp[World.setCell]
  omega
end
end
end Go.Proofs.YtlgfdgdlaahpfaaGreatDoor
