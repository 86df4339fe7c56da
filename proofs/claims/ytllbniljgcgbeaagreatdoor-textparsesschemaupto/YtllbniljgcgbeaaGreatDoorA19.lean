import Derived.Test.YtllbniljgcgbeaaGreatDoorA4
import Derived.Test.YtllbniljgcgbeaaGreatDoorTx9
namespace Go.Proofs.YtllbniljgcgbeaaGreatDoor
section
open Go.RowKit
section
variable {P:Program} {ops:Array Oper} {Q:Exit->Act->World->Prop} {S:World->Prop}
def b9(P:Program)(ops:Array Oper)(Q:Exit->Act->World->Prop)(S:World->Prop):List (Bool×Nat)->Act->World->Prop
 | [],a,w=>Q .normal a w
 | (true,i)::r,a,w=>∃o,ops[i]?=some o∧∃v,(∀z:World,S z->(execOp a.eval o).run P z=.ok (.value v) z)∧b9 P ops Q S r (a.put o.dst v) w
 | (false,i)::r,a,w=>∃o,ops[i]?=some o∧o.wp P a w (fun a' w'=>S w'∧b9 P ops Q S r a' w') Q
theorem bZ{i:Nat}{r:List (Bool×Nat)}{a:Act}{w:World}{l:List Oper}(h:match l[i]? with
  |some o=>∃v,(∀z:World,S z->(execOp a.eval o).run P z=.ok (.value v) z)∧b9 P l.toArray Q S r (a.put o.dst v) w
  |none=>False):b9 P l.toArray Q S ((true,i)::r) a w:=by
 split at h
 ·next o ho=>exact⟨o,by simpa using ho,h⟩
 ·exact h.elim
theorem de{i:Nat}{r:List (Bool×Nat)}{a:Act}{w:World}{l:List Oper}(h:match l[i]? with
  |some o=>∀K:Act->World->Prop,(∀a' w',S w'->b9 P l.toArray Q S r a' w'->K a' w')->o.wp P a w K Q
  |none=>False):b9 P l.toArray Q S ((false,i)::r) a w:=by
 split at h
 ·next o ho=>exact⟨o,by simpa using ho,h _ fun _ _ h1 h2=>⟨h1,h2⟩⟩
 ·exact h.elim
theorem fD{a:Act}{w:World}(h:Q .normal a w):b9 P ops Q S [] a w:=h
theorem fm(hs:Region.noSelect ops=true)(hQ:∀c d v a w,Q (.panic c) (Act.put a d v) w->Q (.panic c) a w):∀(l:List (Bool×Nat)) (b:Array Bool) (a:Act) (w:World),S w->dz ops l b=true->b9 P ops Q S l a w->wpAnyH P .any ops Q S l.length b a w
 | [],b,a,w,_,hB,h=>⟨by simpa[dz] using hB,h⟩
 | (true,i)::r,b,a,w,hw,hB,h=>by
  obtain⟨o,ho,v,h1,h2⟩:=h
  simp only[dz,Bool.and_eq_true] at hB
  obtain⟨⟨⟨hr,hf⟩,hg⟩,hB'⟩:=hB
  exact wpAnyH_take (v:=v) ho hs hf hr (fun c a w=>hQ c _ _ a w) (.inl ⟨guard_of ho hg _,fun z hz=>h1 z hz⟩) hw (fm hs hQ r _ _ w hw hB' h2)
 | (false,i)::r,b,a,w,hw,hB,h=>by
  obtain⟨o,ho,h1⟩:=h
  simp only[dz,Bool.and_eq_true,beq_iff_eq] at hB
  obtain⟨⟨hr,hg⟩,hB'⟩:=hB
  refine wpAnyH_all hr (by simp) fun j hj=>?_
  rw[List.mem_singleton] at hj
  subst hj
  unfold wpOp
  simp only[ho,guard_of ho hg,if_true]
  exact .inl (Oper.wp_mono (fun a' w' h'=>⟨h'.1,fm hs hQ r _ a' w' h'.1 hB' h'.2⟩) h1)
theorem dx{id:Nat}{a:Act}{u:World}(S:World->Prop)(l:List (Bool×Nat))(hm:P.follows .mixedOrders=true)(hB:(decide (l.length=ops.size)&&Region.noSelect ops&&dz ops l (Array.replicate ops.size false))=true)(hQ:∀c d v a w,Q (.panic c) (Act.put a d v) w->Q (.panic c) a w)(h0:S u.drew)(h:b9 P ops Q S l a u.drew):(Code.region id ops true).wp P Q a u:=by
 simp only[Bool.and_eq_true,decide_eq_true_eq] at hB
 obtain⟨⟨h1,h2⟩,h3⟩:=hB
 refine wp_region_held (S:=S) hm ?_
 rw[<-h1]
 have h4:=fm h2 hQ l (Array.replicate ops.size false) a u.drew h0 h3 h
 rw[<-h1] at h4
 exact h4
end
end
section
open Go.RowKit
def dS(w:World)(R:Nat)(S:ByteArray)(x:Tx.R (Tx.Bs×Tx.Bs))(e:Ending)(w':World):Prop:=∃T:ByteArray,e=.returned (.string T)∧aW w' R S x∧(∀y r,x=.ok (y,r)->T=⟨y.toArray⟩)∧Aside (fun k=>k=R) w w'
def atOf21(w:World)(R:Nat):Nat:=match w.cell? ⟨R,1,none⟩ with
 |some (.int _ a)=>a.toNat
 |_=>0
section
variable {w w':World} {R:Nat} {S:ByteArray} {l:Tx.Bs}
theorem an.atOf21(h:an w R S l):atOf21 w R=S.size-l.length:=by
 have c1:w.cell? ⟨R,1,none⟩=some (.int .i64 ((S.size-l.length:Nat):Int)):=h.cell 1
 unfold Go.Proofs.YtllbniljgcgbeaaGreatDoor.atOf21
 rw[c1]
 simp
theorem an.step(h:an w R S l)(k:Nat)(hk:k<=l.length)(v:Int)(hv:v=((S.size-l.length:Nat):Int)+k):an (w.setCell ⟨R,1,none⟩ (.int .i64 v)) R S (l.drop k)∧Aside (fun i=>i=R) w (w.setCell ⟨R,1,none⟩ (.int .i64 v)):=by
 have hle:=h.le
 have hs:=h
 rw[<-List.take_append_drop k l] at hs
 refine⟨hs.skip ?_,(Aside.refl (fun i=>i=R) w).setCell (p:=⟨R,1,none⟩) (.inl rfl) _⟩
 have e:v=((S.size-(l.drop k).length:Nat):Int):=by rw[hv,List.length_drop];omega
 rw[ai h.lies 1 _,e]
 rfl
theorem an.get(h:an w R S l)(j:Nat)(hj:j<l.length):∃hlt:S.size-l.length+j<S.size,S[S.size-l.length+j]'hlt=l[j]:=by
 have hle:=h.le
 have hlt:S.size-l.length+j<S.size:=by omega
 refine⟨hlt,?_⟩
 have h1:=congrArg (fun x=>x[j]?) h.suf
 simp only[List.getElem?_drop] at h1
 rw[List.getElem?_eq_getElem hj] at h1
 obtain⟨h2,h3⟩:=List.getElem?_eq_some_iff.1 h1
 rw[<-h3]
 simp[ByteArray.getElem_eq_getElem_data]
theorem an.gets(h:an w R S l){a:Nat}(ha:a=S.size-l.length)(j:Nat)(hj:j<l.length):∃hlt:a+j<S.size,S[a+j]'hlt=l[j]:=by
 subst ha
 exact h.get j hj
theorem pa{q d:UInt8}{r1:Tx.Bs}(h1:(92:UInt8)≠q)(hd:d=q∨d=92):Tx.pq q (92::d::r1)=pre [d] (Tx.pq q r1):=by
 rw[Tx.pq.eq_def]
 dsimp only
 rw[if_neg h1,if_neg (by decide),if_neg (fun h=>h rfl),if_pos hd]
 cases Tx.pq q r1 <;> rfl
theorem pb{q:UInt8}(h1:(92:UInt8)≠q):Tx.pq q [92]=.error (5,1):=by
 rw[Tx.pq.eq_def]
 dsimp only
 rw[if_neg h1,if_neg (by decide),if_neg (fun h=>h rfl)]
theorem o9{q a b:UInt8}{r2:Tx.Bs}(h1:(92:UInt8)≠q)(hd:¬((120:UInt8)=q∨(120:UInt8)=92))(ha:Tx.half a<16)(hb:Tx.half b<16)(hv:¬(32<=16*Tx.half a+Tx.half b∧16*Tx.half a+Tx.half b<=126)):Tx.pq q (92::120::a::b::r2)=pre [UInt8.ofNat (16*Tx.half a+Tx.half b)] (Tx.pq q r2):=by
 rw[Tx.pq.eq_def]
 dsimp only
 rw[if_neg h1,if_neg (by decide),if_neg (fun h=>h rfl),if_neg hd,if_pos ⟨rfl,ha,hb,hv⟩]
 cases Tx.pq q r2 <;> rfl
theorem dK{q d:UInt8}{r1:Tx.Bs}(h1:(92:UInt8)≠q)(hd:¬(d=q∨d=92))(h:∀a b r2,r1=a::b::r2->¬(d=120∧Tx.half a<16∧Tx.half b<16∧¬(32<=16*Tx.half a+Tx.half b∧16*Tx.half a+Tx.half b<=126))):Tx.pq q (92::d::r1)=.error (5,r1.length+2):=by
 rw[Tx.pq.eq_def]
 dsimp only
 rw[if_neg h1,if_neg (by decide),if_neg (fun h=>h rfl),if_neg hd]
 match r1,h with
 | [],_=>rfl
 | [x],_=>rfl
 |x::y::r2,h=>
  dsimp only
  rw[if_neg (h x y r2 rfl)]
  rfl
theorem tg{q:UInt8}{r:Tx.Bs}:Tx.pq q (q::r)=.ok ([],r):=by
 rw[Tx.pq.eq_def]
 dsimp only
 rw[if_pos rfl]
theorem rU{q c:UInt8}{r:Tx.Bs}(h1:c≠q)(h2:c.toNat<32∨126<c.toNat):Tx.pq q (c::r)=.error (5,r.length+1):=by
 rw[Tx.pq.eq_def]
 dsimp only
 rw[if_neg h1,if_pos h2]
theorem an.under{B:Nat}(h:an w R S l)(hB:R<B)(hb:Below B w w'):an w' R S l:=⟨(hb.block R hB).trans h.lies,h.suf,h.le,h.small⟩
def RdS(R:Nat)(S:ByteArray)(a:Nat)(z:World):Prop:=z.cell? ⟨R,0,none⟩=some (.string S)∧z.cell? ⟨R,1,none⟩=some (.int .i64 (a:Int))
theorem RdS.on{a B:Nat}(h:RdS R S a w)(hB:R<B)(hb:Below B w w'):RdS R S a w':=by
 obtain⟨h1,h2⟩:=h
 unfold World.cell? at h1 h2
 unfold RdS World.cell?
 rw[hb.block R hB]
 exact⟨h1,h2⟩
theorem gX{B:Nat}(hB:B<=w.1.size)(k:Nat):Below B w (w.drewN k):=(am (fun _=>False) w k).below hB (fun _ _ h=>h)
theorem gC{B:Nat}{wr W:World}{a:Nat}{v:Value}{ys:Tx.Bs}(hB:B=w.1.size)(hR:R<B)(ha:a=S.size-l.length)(HR:an wr R S l)(HA:Aside (fun k=>k=R) w wr)(hb:Below B wr W)(hH:Has W B v ys)(j:Nat)(hj:j<=l.length):
  W.cell? ⟨R,0,none⟩=some (.string S)∧W.cell? ⟨R,1,none⟩=some (.int .i64 (a:Int))∧W.frozen? ⟨R,1,none⟩=false∧Hid (an (W.setCell ⟨R,1,none⟩ (.int .i64 ((a:Int)+j))) R S (l.drop j))∧Hid (Has (W.setCell ⟨R,1,none⟩ (.int .i64 ((a:Int)+j))) B v ys)∧Hid (Aside (fun k=>k=R) w (W.setCell ⟨R,1,none⟩ (.int .i64 ((a:Int)+j)))):=by
 subst hB
 have h1:an W R S l:=HR.under hR hb
 have c1:W.cell? ⟨R,1,none⟩=some (.int .i64 ((S.size-l.length:Nat):Int)):=h1.cell 1
 obtain⟨h2,h3⟩:=h1.step j hj ((a:Int)+j) (by rw[ha])
 have h4:Aside (fun k=>w.1.size<=k) wr W:=dQ hb (fun k _ h=>h)
 refine⟨h1.cell 0,by rw[ha];exact c1,h1.thawed 1,h2,hH.aside h3 (fun k hk he=>by have:=(hH.lt k hk).1;omega),(HA.trans h4 (fun k hk hc=>by omega)).trans h3 (fun _ _ h=>h)⟩
end
end
end Go.Proofs.YtllbniljgcgbeaaGreatDoor
