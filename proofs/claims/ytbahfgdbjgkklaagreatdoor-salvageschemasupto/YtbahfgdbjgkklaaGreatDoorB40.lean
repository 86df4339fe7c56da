import Derived.Test.YtbahfgdbjgkklaaGreatDoorB39
import Derived.Deep.RegionHeld3
import Derived.Deep.RegionLaw
set_option maxHeartbeats 4000000
namespace Go.Proofs.YtbahfgdbjgkklaaGreatDoor
variable{B B' g k n:Nat}{W w w1:World}{l:L8}{f u v v' x y:Value}{q:OA}{T:TypeId}{o:Obj}
section
open Go.RowKit
def bQ(n:Nat)(k:Int)(v f:Value):AV:=#[.int .i64 n,.int .i64 k,v,f]
def opI:Option Nat->Int
 |some k=>k
 |none=>-1
def cP(g:Nat):Option Nat->Value
 |some _=>.func (.func 104) #[.pointer (some ⟨g,0,none⟩)] #[]
 |none=>.func (.func 105) #[.pointer (some ⟨g,0,none⟩)] #[]
theorem aX(P:Program)(w:World)(a:Addr)(m:Mode)(fn:Fn)(first captured:AV):(store a (.func fn first captured) m).run P w=stored P w a (.func fn first captured) m:=run_store P w a _ m rfl
attribute [local go_sem] aX
theorem bW{k:Int}(h:w.1[g]?=some (.cells (bQ n k v f) 139))(i:Nat):w.cell? ⟨g,i,none⟩=(bQ n k v f)[i]?:=by
 unfold World.cell?;rw[h];rfl
theorem gA{k:Int}(h:w.1[g]?=some (.cells (bQ n k v f) 139))(i:Nat):w.frozen? ⟨g,i,none⟩=false:=by
 simp[World.frozen?,h]
theorem jO{n':Nat}{k k':Int}{f':Value}(h:w.1[g]?=some (.cells (bQ n k v f) 139))(i:Nat)(u:Value)(z:bQ n' k' v' f'=(bQ n k v f).setIfInBounds i u):(w.setCell ⟨g,i,none⟩ u).1[g]?=some (.cells (bQ n' k' v' f') 139):=by
 simp only[World.setCell,Array.getElem?_modify,h,if_true,Option.map_some];rw[if_neg (by simp),z]
theorem jz(g n m:Nat)(k:Int)(q:OA)(cap:Nat)(f:Value)(w:World)(op:Option Nat)(h:w.1[g]?=some (.cells (bQ n k (.slice q m cap) f) 139)):Calls Tryz.prog 69 #[.pointer (some ⟨g,0,none⟩),.int .i64 (opI op)] w fun e w'=>e=.returned (.tuple #[])∧w'.1[g]?=some (.cells (bQ n (opI op) (.slice q 0 cap) (cP g op)) 139)∧Aside (·=g) w w':=by
 have c2:w.cell? ⟨g,2,none⟩=some (.slice q m cap):=bW h 2;have f1:=gA h 1;have S:=gA h 2;have U:=gA h 3;have c1:w.cell? ⟨g,1,none⟩=some (.int .i64 k):=bW h 1;have c3:w.cell? ⟨g,3,none⟩=some f:=bW h 3;have J:(w.setCell ⟨g,1,none⟩ (.int .i64 (opI op))).1[g]?=some (.cells (bQ n (opI op) (.slice q m cap) f) 139):=jO h 1 _ rfl;have K:((w.setCell ⟨g,1,none⟩ (.int .i64 (opI op))).setCell ⟨g,2,none⟩ (.slice q 0 cap)).1[g]?=some (.cells (bQ n (opI op) (.slice q 0 cap) f) 139):=jO J 2 _ rfl;have L:(((w.setCell ⟨g,1,none⟩ (.int .i64 (opI op))).setCell ⟨g,2,none⟩ (.slice q 0 cap)).setCell ⟨g,3,none⟩ (cP g (some 0))).drew.1[g]?=some (.cells (bQ n (opI op) (.slice q 0 cap) (cP g (some 0))) 139):=jO K 3 _ rfl;have M:Aside (·=g) w (((w.setCell ⟨g,1,none⟩ (.int .i64 (opI op))).setCell ⟨g,2,none⟩ (.slice q 0 cap)).setCell ⟨g,3,none⟩ (cP g (some 0))).drew:=((((Aside.refl (·=g) w).setCell (p:=⟨g,1,none⟩) (.inl rfl) _).setCell (p:=⟨g,2,none⟩) (.inl rfl) _).setCell (p:=⟨g,3,none⟩) (.inl rfl) _).drew;have z:=gQq L;have D:=gQq M;clear h J K L M;cases op with
 |some k'=>
  have Q:(((k':Nat):Int)==-1)=false:=by rw[beq_eq_false_iff_ne];omega
  simp only[opI,cP] at z D ⊢;cases q with
  |none=>
   go_enter Tryz.func69,Tryz.ntmps69;go_wp2_with fail;go_region_law (fail)
   all_goals
    go_wp2;go_end0;exact⟨rfl,z.out,D.out⟩
  |some a=>
   go_enter Tryz.func69,Tryz.ntmps69;go_wp2_with fail;go_region_law (fail)
   all_goals
    go_wp2;go_end0;exact⟨rfl,z.out,D.out⟩
 |none=>
  simp only[opI,cP] at z D ⊢;have I:=gQq (jO (n':=n) (k':=-1) (v':=.slice q 0 cap) (f':=cP g none) z.out 3 (cP g none) rfl);have E:=gQq (D.out.setCell (p:=⟨g,3,none⟩) (.inl rfl) (cP g none));have V:=gA z.out 3;have O:=bW z.out 3;simp only[cP] at I E;cases q with
  |none=>
   go_enter Tryz.func69,Tryz.ntmps69;go_wp2_with fail;go_region_law (fail)
   all_goals
    go_wp2;go_end0;exact⟨rfl,I.out,E.out⟩
  |some a=>
   go_enter Tryz.func69,Tryz.ntmps69;go_wp2_with fail;go_region_law (fail)
   all_goals
    go_wp2;go_end0;exact⟨rfl,I.out,E.out⟩
end
section
open Go.RowKit
attribute [local go_sem] aX
structure Spl(w:World)(B g:Nat)(v:Value)(d:Sp):Prop where
 lies:w.1[g]?=some (.cells (bQ d.n (opI d.op) v (cP g d.op)) 139)
 held:Has w B v d.held
 base:B<=g
theorem bz(h:Has w B v l){C:AV}{T:TypeId}(E:w.1[g]?=some (.cells C T))(J:T≠5):v.ownBlock≠some g:=by
 intro z;rcases h.2 with ⟨D,_⟩ | ⟨L,cap,K,D,_,I,_⟩
 ·rw[D] at z;cases z
 ·rw[D] at z;simp only[Value.ownBlock,Option.some.injEq] at z;subst z;rw[I] at E;injection E with h4;injection h4 with _ h5;exact J h5.symm
def vX(w':World)(Z:Nat)(v':Value)(rs:List Run)(a:Int)(u:Value):Prop :=
 (rs=[]∧∃p c,u=.slice p 0 c)∨∃k l g cap,rs=[(k,l)]∧l≠[]∧a=(k:Int)∧u=.slice (some ⟨g,0,none⟩) l.length cap∧bh w' Z g cap l∧v'.ownBlock≠some g
structure Nxt(w w':World)(B g:Nat)(v v':Value)(d:Sp)(c:UInt8):Prop where
 lies:w'.1[g]?=some (.cells (bQ d.n (opI (d.step c).op) v' (cP g (d.step c).op)) 139)
 held:Has w' B v' (d.step c).held
 aside:Aside (fun i=>i=g∨v.ownBlock=some i) w w'
 own:∀i,v'.ownBlock=some i->v.ownBlock=some i∨w.1.size<=i
theorem pU(n c:Nat)(w:World):(binOp .eql 22 (.slice none n c) (.slice none 0 0)).run Tryz.prog w=.ok (.bool true) w:=by kernel_rfl
theorem pT(a:Addr)(n c:Nat)(w:World):(binOp .eql 22 (.slice (some a) n c) (.slice none 0 0)).run Tryz.prog w=.ok (.bool false) w:=by kernel_rfl
theorem vE(p:OA)(c:Nat)(l:L8)(X:l.length<=1000000)(w:World)(h:At w p l):Calls Tryz.prog 173 #[.slice p l.length c] w fun e w'=>∃q cap,e=.returned (.slice q l.length cap)∧Has w' w.1.size (.slice q l.length cap) l∧Below w.1.size w w':=by
  cases p with
  |none=>
    have O:l=[]:=by
      rcases h with rfl | ⟨b,o,S,_,_⟩
      · rfl
      · cases S
    subst O;have U:=pU 0 c w;go_enter Tryz.func173,Tryz.ntmps173;go_wp2;go_ret;exact⟨none,0,rfl,aM _ _,gQz⟩
  |some a=>
    have J:=gQq (h.on ((Below.refl _ w).alloc gQx (.cells #[] 5)));have z:=gQq (oc w).has;have K:Hid (Below w.1.size w (w.alloc (.cells #[] 5))):=gQy;have U:=pT a l.length c w;clear h;go_enter Tryz.func173,Tryz.ntmps173
    go_wp2_with (first|(at_builtin;refine aE (xs:=[]) z.out J.out (by simp;omega) (by simp) rfl rfl rfl rfl rfl ?_;intro V q cap W M I E Q;have L:=gQq (aB E z.out (by simp));have D:=gQq I;clear E Q I)|fail)
    go_ret;have e:V=l:=M.out;rw[e] at D;rw[e];exact⟨q,cap,rfl,D.out,K.out.trans L.out⟩
theorem jx{w':World}{C:AV}(h:w.1[g]?=some (.cells C T))(hb:Below w.1.size w w'):w'.1[g]?=some (.cells C T):=by
 rw[hb.block g (Array.getElem?_eq_some_iff.1 h).1];exact h
theorem dB(h:w.1[g]?=some o):g<w.1.size:=(Array.getElem?_eq_some_iff.1 h).1
def set2(w:World)(g:Nat)(a b:Value):World:=(w.setCell ⟨g,0,none⟩ a).setCell ⟨g,1,none⟩ b
theorem dV(h:w.1[g]?=some (.cells #[x,y] T))(a b:Value):(set2 w g a b).1[g]?=some (.cells #[a,b] T):=by
 have z:(w.setCell ⟨g,0,none⟩ a).1[g]?=some (.cells #[a,y] T):=by
  simp only[World.setCell,Array.getElem?_modify,h,if_true,Option.map_some];rfl
 unfold set2;simp only[World.setCell,Array.getElem?_modify] at z ⊢;simp only[z,if_true,Option.map_some];rfl
theorem gx(w:World)(g:Nat)(a b:Value):Aside (fun j=>j=g) w (set2 w g a b):=((Aside.refl (fun j=>j=g) w).setCell (p:=⟨g,0,none⟩) (.inl rfl) _).setCell (p:=⟨g,1,none⟩) (.inl rfl) _
theorem dF(w:World):(w.alloc (.cells #[.int .i64 0,.slice none 0 0] 62)).1[w.1.size]?=some (.cells #[.int .i64 0,.slice none 0 0] 62):=bC w _
section
variable {w w':World} {B g:Nat} {v v':Value} {d:Sp} {c:UInt8}
theorem Spl.lt(h:Spl w B g v d):g<w.1.size:=dB h.lies
theorem Spl.apart(h:Spl w B g v d):v.ownBlock≠some g:=bz h.held h.lies (by decide)
theorem Spl.aside{F:Nat->Prop}(h:Spl w B g v d)(z:Aside F w w')(D:¬F g)(E:∀k,v.ownBlock=some k->¬F k):Spl w' B g v d :=
 ⟨by rw[z.block g h.lt D];exact h.lies,h.held.aside z E,h.base⟩
theorem Spl.on(h:Spl w B g v d)(hb:Below w.1.size w w'):Spl w' B g v d:=h.aside (al hb (fun _=>False)) (fun h=>h) (fun _ _ h=>h)
theorem Nxt.beside{F:Nat->Prop}(h:Nxt w w' B g v v' d c)(z:Aside F w' w1)(I:¬F g)(K:∀k,v'.ownBlock=some k->¬F k)(D:∀k,k<w.1.size->¬F k):Nxt w w1 B g v v' d c :=
 ⟨by rw[z.block g (dB h.lies) I];exact h.lies,h.held.aside z K,h.aside.trans z (fun i J E=>absurd E (D i J)),h.own⟩
theorem Nxt.spl(h:Nxt w w' B g v v' d c)(E:Spl w B g v d):Spl (w'.setCell ⟨g,0,none⟩ (.int .i64 ((d.n+1:Nat):Int))) B g v' (d.step c):=by
 refine⟨?_,?_,E.base⟩
 ·refine jO h.lies 0 _ ?_;rw[Sp.step_n];rfl
 ·exact h.held.aside ((Aside.refl (·=g) w').setCell (p:=⟨g,0,none⟩) (.inl rfl) _) (fun j D z=>bz h.held h.lies (by decide) (by rw[D,z]))
end
theorem Has.cut0{m cap:Nat}(h:Has w B (.slice q m cap) l):Has w B (.slice q 0 cap) []:=by
 refine⟨rfl,?_⟩;rcases h.2 with ⟨z,O⟩ | ⟨E,M,D,z,I,J,Q,K,L,S⟩
 ·cases z
  exact .inl ⟨rfl,rfl⟩
 ·cases z
  exact .inr ⟨E,cap,D,rfl,I,J,by simp,K,L,by simp[cellsOf]⟩
theorem gB{w2:World}{m cap:Nat}{d:Sp}{c:UInt8}{op:Option Nat}(h:Spl w1 B g (.slice q m cap) d)(E:Below w.1.size w w1)(I:w2.1[g]?=some (.cells (bQ d.n (opI op) (.slice q 0 cap) (cP g op)) 139))(D:Aside (·=g) w1 w2)(M:(d.step c).op=op)(J:(d.step c).held=[]):Nxt w w2 B g (.slice q m cap) (.slice q 0 cap) d c:=by
 refine⟨by rw[M];exact I,?_,?_,fun i K=>?_⟩
 ·rw[J];exact(h.held.cut0).aside D (fun j L z=>h.apart (by rw[<-z,<-L];cases q <;> rfl))
 ·have:=(al E (fun i=>i=g∨(Value.slice q m cap).ownBlock=some i)).trans D (fun i _ z=>.inl z);exact this
 ·left;rw[<-K];cases q <;> rfl
theorem jt{N:Nat}{d:Sp}{c:UInt8}(h:Nxt w w1 B g v v' d c)(E:w1.1[N]?=some (.cells #[x,y] 62))(J:w.1.size<=N)(I:g<w.1.size)(a b:Value):Nxt w (set2 w1 N a b) B g v v' d c :=
 h.beside (gx w1 N a b) (by omega) (fun k D z=>bz h.held E (by decide) (by rw[D,z])) (fun k D z=>by omega)
theorem rO{z cap N:Nat}(h:bh w1 z g cap l)(D:w1.1[N]?=some (.cells #[x,y] 62))(a b:Value):bh (set2 w1 N a b) z g cap l :=
 Has.aside (v:=.slice (some ⟨g,0,none⟩) l.length cap) h (gx w1 N a b) (fun k I E=>bz (v:=.slice (some ⟨g,0,none⟩) l.length cap) h D (by decide) (by rw[I,E]))
theorem zj(w:World)(B g:Nat)(v:Value)(d:Sp)(c:UInt8)(h:Spl w B g v d)(M:d.op=none):Calls Tryz.prog 105 #[.pointer (some ⟨g,0,none⟩),.int .u8 (c.toNat:Int)] w fun e w'=>∃v' a u,e=.returned (.agg #[.int .i64 a,u])∧Nxt w w' B g v v' d c∧vX w' w.1.size v' (d.told c) a u:=by
 obtain⟨p,cap,a1,-,-⟩:=h.held.at;subst a1;obtain⟨z,L⟩:∃z,z=w.alloc (.cells #[.int .i64 0,.slice none 0 0] 62):=⟨_,rfl⟩;have hb:Below w.1.size w z:=by rw[L];exact gQy
 have E:z.1[w.1.size]?=some (.cells #[.int .i64 0,.slice none 0 0] 62):=by rw[L];exact dF w
 have I:=h.on hb;have S:Hid (d.told c=[]):=Sp.told_none M c;have a0:=h.lt;have aj:g≠w.1.size:=by omega
 have ah:=gQq I;have ab:=gQq hb;by_cases D:c=0
 ·have c0:z.cell? ⟨g,0,none⟩=some (.int .i64 d.n):=bW I.lies 0;have O:=gQq (jz g d.n d.held.length (opI d.op) p cap (cP g d.op) z (some d.n) I.lies);simp only[opI] at O;have Y:(c.toNat:Int)=0:=by rw[D];rfl
  have K:=gQq E;rw[Y,D];rw[D] at S;clear h D hb I E Y;subst L;go_enter Tryz.func105,Tryz.ntmps105;go_wp2_with fail;refine O.out.mono ?_;rintro e w1 ⟨rfl,Z,V⟩;have J:w1.1[w.1.size]?=some (.cells #[.int .i64 0,.slice none 0 0] 62):=by rw[V.block _ (dB K.out) (fun D=>aj D.symm)];exact K.out
  have X:=gQq J;have Q:=gQq (gB (c:=0) ah.out ab.out Z V (Sp.fence_op d) (Sp.fence_held d));have a2:w1.cell? ⟨w.1.size,0,none⟩=some (.int .i64 0):=by simp[World.cell?,J]
  have a3:w1.cell? ⟨w.1.size,1,none⟩=some (.slice none 0 0):=by simp[World.cell?,J]
  have a4:w1.frozen? ⟨w.1.size,0,none⟩=false:=by simp[World.frozen?,J]
  have a5:w1.frozen? ⟨w.1.size,1,none⟩=false:=by simp[World.frozen?,J]
  clear J Z V O;go_wp2;refine bodyPost_ret (v:=.agg #[.int .i64 0,.slice none 0 0]) (results_cell_row rfl _ _ w.1.size _ _ _ _ rfl (dV X.out _ _) Tryz.underlying62 rfl (by kernel_rfl)) rfl ?_;exact⟨_,_,_,rfl,jt Q.out X.out gQx a0 _ _,.inl ⟨S.out,_,_,rfl⟩⟩
 ·have a6:((c.toNat:Int)==0)=false:=by
   rw[beq_eq_false_iff_ne];intro a7;exact D (UInt8.toNat_inj.1 (by simp;omega))
  have a2:z.cell? ⟨w.1.size,0,none⟩=some (.int .i64 0):=by simp[World.cell?,E]
  have a3:z.cell? ⟨w.1.size,1,none⟩=some (.slice none 0 0):=by simp[World.cell?,E]
  have a4:z.frozen? ⟨w.1.size,0,none⟩=false:=by simp[World.frozen?,E]
  have a5:z.frozen? ⟨w.1.size,1,none⟩=false:=by simp[World.frozen?,E]
  have U:(d.step c).op=none:=Sp.step_op_none M D;have Q:Hid (Nxt w z B g (.slice p d.held.length cap) (.slice p d.held.length cap) d c):=by
   refine⟨?_,?_,al hb _,fun i ak=>.inl ak⟩
   ·rw[U];have:=I.lies;rw[M] at this;exact this
   ·have:=I.held;rw[Sp.held_none U];rw[Sp.held_none M] at this ⊢;exact this
  have K:=gQq E;clear h D hb I E U;subst L;go_enter Tryz.func105,Tryz.ntmps105;go_wp2;refine bodyPost_ret (v:=.agg #[.int .i64 0,.slice none 0 0]) (results_cell_row rfl _ _ w.1.size _ _ _ _ rfl K.out Tryz.underlying62 rfl (by kernel_rfl)) rfl ?_;exact⟨_,_,_,rfl,Q.out,.inl ⟨S.out,_,_,rfl⟩⟩
end
section
open Go.RowKit
attribute [local go_sem] aX
structure Mid(w W:World)(B g N k:Nat)(v u:Value)(d:Sp):Prop where
 spl:Spl W B g v d
 has:Has W w.1.size u d.held
 var:W.1[N]?=some (.cells #[.int .i64 k,u] 62)
 res:W.1[w.1.size]?=some (.cells #[.int .i64 0,.slice none 0 0] 62)
 low:Below w.1.size w W
 far:w.1.size<N
theorem uG{d:Sp}(E:o=.cells #[.int .i64 0,.slice none 0 0] 62)(h:Spl (w.alloc o) B g v d)(J:Has w1 n u d.held)(D:n=(w.alloc o).1.size)(hb:Below (w.alloc o).1.size (w.alloc o) w1):Mid w (w1.alloc (.cells #[.int .i64 k,u] 62)) B g w1.1.size k v u d:=by
 have z:Below w1.1.size w1 (w1.alloc (.cells #[.int .i64 k,u] 62)):=gQy;have I:=hb.size;simp at I;refine⟨(h.on hb).on z,?_,bC _ _,?_,?_,by omega⟩
 ·exact(J.low (by rw[D];simp)).on z
 ·rw[z.block _ (by omega),hb.block _ (by simp),E];exact dF w
 ·exact((Below.refl w.1.size w).alloc gQx _).trans ((hb.mono (by simp)).trans (z.mono (by omega)))
theorem uF{d:Sp}(J:o=.cells #[.int .i64 0,.slice none 0 0] 62)(h:Spl (w.alloc o) B g v d)(U:g<w.1.size)(S:Has w1 n u d.held)(O:n=((w.alloc o).alloc o).1.size)(hb:Below ((w.alloc o).alloc o).1.size ((w.alloc o).alloc o) w1):Mid w (set2 w1 (w.1.size+1) (.int .i64 k) u) B g (w.1.size+1) k v u d:=by
 have E:Below (w.alloc o).1.size (w.alloc o) ((w.alloc o).alloc o):=gQy;have Q:=hb.size;simp at Q;have K:w1.1[w.1.size+1]?=some (.cells #[.int .i64 0,.slice none 0 0] 62):=by
  rw[hb.block _ (by simp),J];have:=dF (w.alloc o);simpa[J] using this
 have z:=gx w1 (w.1.size+1) (.int .i64 k) u;have L:=(h.on E).on hb;refine⟨L.aside z (by omega) (fun j D I=>bz L.held K (by decide) (by rw[D,I])),?_,dV K _ _,?_,?_,by omega⟩
 ·have:=S.low (B':=w.1.size) (by rw[O];simp;omega);exact this.aside z (fun j D I=>bz this K (by decide) (by rw[D,I]))
 ·rw[z.block _ (by omega) (by omega),hb.block _ (by simp;omega),E.block _ (by simp),J];exact dF w
 ·have M:Below w.1.size w w1:=((Below.refl w.1.size w).alloc gQx _).trans ((E.mono (by simp)).trans (hb.mono (by simp;omega)));exact M.trans (z.below (by omega) (fun j D=>by omega))
theorem qc(w:World)(B g:Nat)(v:Value)(d:Sp)(k:Nat)(h:Spl w B g v d)(a5:d.op=some k):Calls Tryz.prog 104 #[.pointer (some ⟨g,0,none⟩),.int .u8 0] w fun e w'=>∃v' a u,e=.returned (.agg #[.int .i64 a,u])∧Nxt w w' B g v v' d 0∧vX w' w.1.size v' (d.told 0) a u:=by
  obtain⟨p,cap,b3,-,-⟩:=h.held.at;subst b3;obtain⟨D,X⟩:∃D,D=w.alloc (.cells #[.int .i64 0,.slice none 0 0] 62):=⟨_,rfl⟩;have hb:Below w.1.size w D:=by rw[X];exact gQy
  have bp:D.1[w.1.size]?=some (.cells #[.int .i64 0,.slice none 0 0] 62):=by rw[X];exact dF w
  have M:=h.on hb;have bk:=h.lt;have cd:g≠w.1.size:=by omega
  have a7:=gQq M;have bq:=gQq hb;have c0:D.cell? ⟨g,0,none⟩=some (.int .i64 d.n):=bW M.lies 0;have c1:D.cell? ⟨g,1,none⟩=some (.int .i64 k):=by have:=bW M.lies 1;rw[a5] at this;exact this
  have c2:D.cell? ⟨g,2,none⟩=some (.slice p d.held.length cap):=bW M.lies 2;have bT:=gQq bp;obtain⟨O,a1⟩:∃O,O=D.alloc (.cells #[.int .i64 0,.slice none 0 0] 62):=⟨_,rfl⟩;have Y:Below D.1.size D O:=by rw[a1];exact gQy
  have a0:=M.on Y;have bc:O.cell? ⟨g,1,none⟩=some (.int .i64 k):=by have:=bW a0.lies 1;rw[a5] at this;exact this
  have be:O.cell? ⟨g,2,none⟩=some (.slice p d.held.length cap):=bW a0.lies 2;have Z:Hid (∀W,Below D.1.size D W->Calls Tryz.prog 173 #[.slice p d.held.length cap] W fun e w'=>∃q cap,e=.returned (.slice q d.held.length cap)∧Has w' W.1.size (.slice q d.held.length cap) d.held∧Below W.1.size W w'):=by
    intro W b2;obtain⟨cg,b9,a3,b1,-⟩:=M.held.at;injection a3 with e1;subst e1;exact vE p cap d.held (by have:=d.held_le;omega) W (b1.on b2)
  have ce:¬w.1.size+1=g:=by omega
  have cf:¬w.1.size=g:=by omega
  have a8:Hid (O.1[w.1.size+1]?=some (.cells #[.int .i64 0,.slice none 0 0] 62)):=by
    show _=_;rw[a1];have:=dF D;rw[X] at this ⊢;simpa using this
  have bO:=gQq (fun j (a4:(Value.slice p d.held.length cap).ownBlock=some j)=>(h.held.lt j a4).2);clear h hb M bp a0;subst a1;subst X;go_enter Tryz.func104,Tryz.ntmps104;go_wp2_with fail
  go_region_held3 (fun w'=>w'.cell? ⟨g,1,none⟩=some (.int .i64 k)∧w'.cell? ⟨g,2,none⟩=some (.slice p d.held.length cap)) (first | go_keep | exact⟨by assumption,by assumption⟩ | (refine⟨?_,?_⟩ <;> first | assumption | (simp;assumption)))
    (first
     | (go_at_call 173
        refine(Z.out _ (by first | exact gQz | exact gQz.drew)).mono ?_;rintro e w1 ⟨q,L,rfl,J,I⟩;have a9:w1.cell? ⟨g,1,none⟩=some (.int .i64 k):=(by rw[I.cell (p:=⟨g,1,none⟩) (by simp;omega)];exact c1);have bb:w1.cell? ⟨g,2,none⟩=some (.slice p d.held.length cap):=(by rw[I.cell (p:=⟨g,2,none⟩) (by simp;omega)];exact c2);have cc:¬w1.1.size=g:=(by have:=I.size;simp at this;omega);have ah:=gQq J;have E:=gQq I;clear J I)
     | (go_at_call 173
        refine(Z.out _ (by first | exact Y | exact Y.drew)).mono ?_;rintro e w1 ⟨q,L,rfl,J,I⟩;have a9:w1.cell? ⟨g,1,none⟩=some (.int .i64 k):=(by rw[I.cell (p:=⟨g,1,none⟩) (by simp;omega)];exact bc);have bb:w1.cell? ⟨g,2,none⟩=some (.slice p d.held.length cap):=(by rw[I.cell (p:=⟨g,2,none⟩) (by simp;omega)];exact be);have S:w1.1[w.1.size+1]?=some (.cells #[.int .i64 0,.slice none 0 0] 62):=(I.block (w.1.size+1) (by simp)).trans a8.out;have b4:w1.cell? ⟨w.1.size+1,0,none⟩=some (.int .i64 0):=(by simp[World.cell?,S]);have b5:w1.cell? ⟨w.1.size+1,1,none⟩=some (.slice none 0 0):=(by simp[World.cell?,S]);have b6:w1.frozen? ⟨w.1.size+1,0,none⟩=false:=(by simp[World.frozen?,S]);have b7:w1.frozen? ⟨w.1.size+1,1,none⟩=false:=(by simp[World.frozen?,S]);have b8:=gQq S;clear S;have ah:=gQq J;have E:=gQq I;clear J I))
  case' refine_2.refine_3.refine_3.refine_3.refine_3.refine_3.refine_3.refine_3.refine_3.refine_1.refine_2.refine_3.refine_1.refine_2.refine_1.refine_2=>
    have z:=gQq (uG (k:=k) rfl a7.out ah.out rfl ⟨E.out.os,E.out.tape,E.out.output,E.out.size,E.out.block⟩);generalize w1.alloc (.cells #[.int .i64 k,.slice q d.held.length L] 62)=ak at z ⊢;generalize w1.1.size=V at z ⊢
  case' refine_2.refine_3.refine_3.refine_3.refine_3.refine_3.refine_3.refine_3.refine_3.refine_2.refine_1.refine_2.refine_1.refine_2.refine_3.refine_1.refine_2=>
    have z:=gQq (uF (k:=k) rfl a7.out bk ah.out rfl ⟨E.out.os,E.out.tape,E.out.output,E.out.size,E.out.block⟩);unfold set2 at z;generalize (w1.setCell ⟨w.1.size+1,0,none⟩ (.int .i64 k)).setCell ⟨w.1.size+1,1,none⟩ (.slice q d.held.length L)=ak at z ⊢;generalize w.1.size+1=V at z ⊢
  all_goals
    clear c0 c1 c2 bc be a9 bb a8 Z bT bq Y;have bX:ak.cell? ⟨g,0,none⟩=some (.int .i64 d.n):=bW z.out.spl.lies 0;have ab:=gQq (jz g d.n d.held.length (opI d.op) p cap (cP g d.op) ak (some d.n) z.out.spl.lies);simp only[opI] at ab;go_wp2_with fail;refine ab.out.mono ?_;rintro e K ⟨rfl,bj,U⟩;have a6:K.1[V]?=some (.cells #[.int .i64 k,.slice q d.held.length L] 62):=by
      rw[U.block _ (dB z.out.var) (by have:=z.out.far;omega)];exact z.out.var
    have Q:K.1[w.1.size]?=some (.cells #[.int .i64 0,.slice none 0 0] 62):=by
      rw[U.block _ (dB z.out.res) (by omega)];exact z.out.res
    have z0:K.cell? ⟨V,0,none⟩=some (.int .i64 k):=(by simp[World.cell?,a6]);have z1:K.cell? ⟨V,1,none⟩=some (.slice q d.held.length L):=(by simp[World.cell?,a6]);have b4:K.cell? ⟨w.1.size,0,none⟩=some (.int .i64 0):=(by simp[World.cell?,Q]);have b5:K.cell? ⟨w.1.size,1,none⟩=some (.slice none 0 0):=(by simp[World.cell?,Q]);have b6:K.frozen? ⟨w.1.size,0,none⟩=false:=(by simp[World.frozen?,Q]);have b7:K.frozen? ⟨w.1.size,1,none⟩=false:=(by simp[World.frozen?,Q]);have bN:=gQq (gB (c:=0) z.out.spl z.out.low bj U (Sp.fence_op d) (Sp.fence_held d));have br:=gQq (z.out.has.aside U (fun j a4 a2=>bz z.out.has z.out.spl.lies (by decide) (by rw[a4,a2])));have aj:=gQq Q;clear a6 Q bj U ab bX z;go_wp2;refine bodyPost_ret (v:=.agg #[.int .i64 k,.slice q d.held.length L]) (results_cell_row rfl _ _ w.1.size _ _ _ _ rfl (dV aj.out _ _) Tryz.underlying62 rfl (by kernel_rfl)) rfl ?_;refine⟨_,_,_,rfl,jt bN.out aj.out gQx bk _ _,?_⟩;rw[Sp.told_some a5];by_cases J:d.held=[]
    · rw[if_pos J];exact .inl ⟨rfl,q,L,by rw[J];rfl⟩
    · rw[if_neg J];rcases br.out.form with ⟨_,b0⟩ | ⟨bi,c2,a3,bn⟩
      · exact absurd b0 J
      · injection a3 with e1 _ e2;subst e1 e2;refine .inr ⟨k,d.held,bi,L,rfl,J,rfl,rfl,rO bn aj.out _ _,fun a2=>?_⟩;have ca:=bn.base.1;have cb:=bO.out bi (by rw[<-a2];cases p <;> rfl);omega
theorem sH(w:World)(B g:Nat)(v:Value)(d:Sp)(k:Nat)(c:UInt8)(h:Spl w B g v d)(aj:d.op=some k)(D:c≠0)(M:d.held.length=2200):Calls Tryz.prog 104 #[.pointer (some ⟨g,0,none⟩),.int .u8 (c.toNat:Int)] w fun e w'=>∃v' a u,e=.returned (.agg #[.int .i64 a,u])∧Nxt w w' B g v v' d c∧vX w' w.1.size v' (d.told c) a u:=by
 obtain⟨p,cap,a0,-,-⟩:=h.held.at;subst a0;have ab:Hid (d.told c=[]):=Sp.told_else D;have O:Hid ((d.step c).op=none):=Sp.step_op_full aj D M;have a1:((c.toNat:Int)==0)=false:=by
  rw[beq_eq_false_iff_ne];intro a2;exact D (UInt8.toNat_inj.1 (by simp;omega))
 rw[M] at h ⊢;obtain⟨z,K⟩:∃z,z=w.alloc (.cells #[.int .i64 0,.slice none 0 0] 62):=⟨_,rfl⟩;have hb:Below w.1.size w z:=by rw[K];exact gQy
 have V:z.1[w.1.size]?=some (.cells #[.int .i64 0,.slice none 0 0] 62):=by rw[K];exact dF w
 have I:=h.on hb;have ak:=h.lt;have ah:g≠w.1.size:=by omega
 have Z:=gQq I;have X:=gQq hb;have c2:z.cell? ⟨g,2,none⟩=some (.slice p 2200 cap):=bW I.lies 2;have J:=gQq (jz g d.n 2200 (opI d.op) p cap (cP g d.op) z none I.lies);simp only[opI] at J;have Q:=gQq V;clear h hb I V D M;subst K;go_enter Tryz.func104,Tryz.ntmps104;go_wp2_with fail;refine J.out.mono ?_;rintro e w1 ⟨rfl,U,L⟩;have E:w1.1[w.1.size]?=some (.cells #[.int .i64 0,.slice none 0 0] 62):=by rw[L.block _ (dB Q.out) (fun D=>ah D.symm)];exact Q.out
 have S:=gQq E;have Y:=gQq (gB (c:=c) Z.out X.out U L O.out (Sp.held_none O.out));have a3:w1.cell? ⟨w.1.size,0,none⟩=some (.int .i64 0):=by simp[World.cell?,E]
 have a4:w1.cell? ⟨w.1.size,1,none⟩=some (.slice none 0 0):=by simp[World.cell?,E]
 have a5:w1.frozen? ⟨w.1.size,0,none⟩=false:=by simp[World.frozen?,E]
 have a6:w1.frozen? ⟨w.1.size,1,none⟩=false:=by simp[World.frozen?,E]
 clear E U L J;go_wp2;refine bodyPost_ret (v:=.agg #[.int .i64 0,.slice none 0 0]) (results_cell_row rfl _ _ w.1.size _ _ _ _ rfl (dV S.out _ _) Tryz.underlying62 rfl (by kernel_rfl)) rfl ?_;exact⟨_,_,_,rfl,jt Y.out S.out gQx ak _ _,.inl ⟨ab.out,_,_,rfl⟩⟩
theorem uE{E:World}{m cap:Nat}{p:OA}{D:Nat}{z:L8}{d:Sp}{c:UInt8}(hb:Below w.1.size w E)(J:W.1[g]?=some (.cells (bQ d.n (opI d.op) (.slice p m cap) (cP g d.op)) 139))(L:Has W B (.slice q z.length D) z)(S:Aside (fun k=>(Value.slice p m cap).ownBlock=some k) E W)(Y:∀k,(Value.slice q z.length D).ownBlock=some k->(Value.slice p m cap).ownBlock=some k∨E.1.size<=k)(Z:z=d.held++[c])(X:d.op=some k)(O:(d.step c).op=some k)(Q:(d.step c).held=d.held++[c]):
  Nxt w (W.setCell ⟨g,2,none⟩ (.slice q z.length D)) B g (.slice p m cap) (.slice q z.length D) d c:=by
 have ab:=hb.size;refine⟨?_,?_,?_,fun i U=>?_⟩
 ·rw[O];rw[X] at J;exact jO J 2 _ rfl
 ·rw[Q,<-Z];exact L.aside ((Aside.refl (·=g) W).setCell (p:=⟨g,2,none⟩) (.inl rfl) _) (fun j V I=>bz L J (by decide) (by rw[V,I]))
 ·have M:Aside (fun i=>i=g∨(Value.slice p m cap).ownBlock=some i) w W:=(al hb _).trans S (fun i _ I=>.inr I);exact M.setCell (p:=⟨g,2,none⟩) (.inl (.inl rfl)) _
 ·rcases Y i U with K | K
  ·exact .inl K
  ·exact .inr (by omega)
theorem sG(w:World)(B g:Nat)(v:Value)(d:Sp)(k:Nat)(c:UInt8)(h:Spl w B g v d)(Y:d.op=some k)(D:c≠0)(V:d.held.length≠2200):Calls Tryz.prog 104 #[.pointer (some ⟨g,0,none⟩),.int .u8 (c.toNat:Int)] w fun e w'=>∃v' a u,e=.returned (.agg #[.int .i64 a,u])∧Nxt w w' B g v v' d c∧vX w' w.1.size v' (d.told c) a u:=by
  obtain⟨p,cap,bn,-,-⟩:=h.held.at;subst bn;have a9:Hid (d.told c=[]):=Sp.told_else D;have Q:=gQq (Sp.step_op_some Y D V);have bN:((c.toNat:Int)==0)=false:=by
    rw[beq_eq_false_iff_ne];intro bX;exact D (UInt8.toNat_inj.1 (by simp;omega))
  have bO:((d.held.length:Int)==2200)=false:=by
    rw[beq_eq_false_iff_ne];omega
  have b0:=d.held_le;obtain⟨z,K⟩:∃z,z=w.alloc (.cells #[.int .i64 0,.slice none 0 0] 62):=⟨_,rfl⟩;have hb:Below w.1.size w z:=by rw[K];exact gQy
  have ab:z.1[w.1.size]?=some (.cells #[.int .i64 0,.slice none 0 0] 62):=by rw[K];exact dF w
  have J:=h.on hb;have bk:=h.lt;have bi:g≠w.1.size:=by omega
  have a8:=gQq J;have a1:=gQq hb;have c2:z.cell? ⟨g,2,none⟩=some (.slice p d.held.length cap):=bW J.lies 2;have M:Below z.1.size z (z.alloc (.cells #[.int .u8 (c.toNat:Int)] 5)):=gQy;have I:=gQq (J.on M);have ak:Hid (At (z.alloc (.cells #[.int .u8 (c.toNat:Int)] 5)) (some ⟨w.1.size+1,0,none⟩) [c]):=by
    have e:z.1.size=w.1.size+1:=(by rw[K];simp);have:=(Own.at (w:=z.alloc (.cells #[.int .u8 (c.toNat:Int)] 5)) (b:=z.1.size) (l:=[c]) ⟨#[],bC z _⟩);rw[e] at this;exact this
  have a2:=gQq (hb.trans (M.mono hb.size));have S:=gQq (jx ab M);have aj:=h.held.lt;have bb:Hid (∀j,(Value.slice p d.held.length cap).ownBlock=some j->j<w.1.size):=fun j bj=>(aj j bj).2;have bT:B<=w.1.size:=by have:=h.base;omega
  clear h hb J ab D V M aj a8 a1;subst K;go_enter Tryz.func104,Tryz.ntmps104
  go_wp2_with (at_builtin;refine aE I.out.held ak.out (by simp;omega) (by simp;omega) rfl rfl rfl rfl rfl ?_;intro bq q be W bc U L Z;have X:=I.out.apart;have O:W.1[g]?=_:=(L.block g I.out.lt X).trans I.out.lies;have E:W.1[w.1.size]?=_:=(L.block w.1.size (dB S.out) (fun D=>by have:=bb.out _ D;omega)).trans S.out;have b1:W.cell? ⟨g,2,none⟩=some (.slice p d.held.length cap):=bW O 2;have br:=gA O 2;have bp:¬g=w.1.size:=bi;have b2:W.cell? ⟨w.1.size,0,none⟩=some (.int .i64 0):=(by simp[World.cell?,E]);have b3:W.cell? ⟨w.1.size,1,none⟩=some (.slice none 0 0):=(by simp[World.cell?,E]);have b4:W.frozen? ⟨w.1.size,0,none⟩=false:=(by simp[World.frozen?,E]);have b5:W.frozen? ⟨w.1.size,1,none⟩=false:=(by simp[World.frozen?,E]);have a5:=gQq O;have a7:=gQq E;have a3:=gQq U;have a0:=gQq L;have a6:=gQq Z;clear O E U L Z X)
  have a4:=gQq (uE (c:=c) a2.out a5.out a3.out a0.out a6.out bc.out Y Q.out.1 Q.out.2);have ah:(W.setCell ⟨g,2,none⟩ (.slice q bq.length be)).1[w.1.size]?=some (.cells #[.int .i64 0,.slice none 0 0] 62):=by
    rw[Below.heap_setCell _ _ _ _ (fun D=>bp D.symm)];exact a7.out
  refine bodyPost_ret (v:=.agg #[.int .i64 0,.slice none 0 0]) (results_cell_row rfl _ _ w.1.size _ _ _ _ rfl (dV ah _ _) Tryz.underlying62 rfl (by kernel_rfl)) rfl ?_;exact⟨_,_,_,rfl,jt a4.out ah gQx bk _ _,.inl ⟨a9.out,_,_,rfl⟩⟩
theorem zC(w:World)(B g:Nat)(v:Value)(d:Sp)(k:Nat)(c:UInt8)(h:Spl w B g v d)(D:d.op=some k):Calls Tryz.prog 104 #[.pointer (some ⟨g,0,none⟩),.int .u8 (c.toNat:Int)] w fun e w'=>∃v' a u,e=.returned (.agg #[.int .i64 a,u])∧Nxt w w' B g v v' d c∧vX w' w.1.size v' (d.told c) a u:=by
 by_cases z:c=0
 ·subst z;exact qc w B g v d k h D
 ·by_cases E:d.held.length=2200
  ·exact sH w B g v d k c h D z E
  ·exact sG w B g v d k c h D z E
end
section
open Go.RowKit
attribute [local go_sem] aX
theorem wY:(Tryz.prog.info? 62).map (fun i=>(i.zero,i.size,i.bytes))=some (some (.agg #[.int .i64 0,.slice none 0 0]),2,32):=by kernel_rfl
structure bg(w:World)(B:Nat)(v:Value)(bs:List Nat)(rs:List Run):Prop where
 out:∃us:List Value,w.ownsRow B 62 2 v rs.length us∧bs.length=rs.length∧∀j (hj:j<rs.length),∃g cap,bs[j]?=some g∧us[j*2]?=some (.int .i64 rs[j].1)∧us[j*2+1]?=some (.slice (some ⟨g,0,none⟩) rs[j].2.length cap)∧bh w B g cap rs[j].2
theorem lw(w:World)(B:Nat):bg w B (.slice none 0 0) [] []:=⟨[],⟨rfl,.inl ⟨rfl,rfl⟩⟩,rfl,fun j z=>by simp at z⟩
section
variable {w w':World} {B:Nat} {v:Value} {bs:List Nat} {rs:List Run}
theorem bg.lt(h:bg w B v bs rs):∀k,v.ownBlock=some k->B<=k∧k<w.1.size:=by
 obtain⟨us,z,_⟩:=h.out;exact World.ownsRow.lt z
theorem bg.mem(h:bg w B v bs rs):∀k∈bs,B<=k∧k<w.1.size:=by
 obtain⟨us,K,L,E⟩:=h.out;intro k J;obtain⟨j,I,rfl⟩:=List.mem_iff_getElem.1 J;obtain⟨g,cap,z,_,_,D⟩:=E j (by omega);rw[List.getElem?_eq_getElem I] at z;injection z with z;rw[z];exact⟨D.base.1,D.base.2.1⟩
theorem gD{F:Nat->Prop}{cap:Nat}(h:bh w B g cap l)(E:Aside F w w')(D:¬F g):bh w' B g cap l :=
 Has.aside (v:=.slice (some ⟨g,0,none⟩) l.length cap) h E (fun k z I=>by simp only[Value.ownBlock,Option.some.injEq] at z;subst z;exact D I)
theorem j7{cap:Nat}(h:bh w B g cap l)(z:B'<=B):bh w B' g cap l:=Has.low (v:=.slice (some ⟨g,0,none⟩) l.length cap) h z
theorem bg.aside{F:Nat->Prop}(h:bg w B v bs rs)(I:Aside F w w')(Z:∀k,v.ownBlock=some k->¬F k)(U:∀k∈bs,¬F k):bg w' B v bs rs:=by
 obtain⟨us,D,X,M⟩:=h.out;refine⟨us,⟨D.1,?_⟩,X,fun j V=>?_⟩
 ·rcases D.2 with O | ⟨g,cap,J,rfl,Q,E,S⟩
  ·exact .inl O
  ·exact .inr ⟨g,cap,J,rfl,Q,by rw[I.block g (dB E) (Z g rfl)];exact E,S⟩
 ·obtain⟨g,cap,z,K,L,Y⟩:=M j V;exact⟨g,cap,z,K,L,gD Y I (U g (List.mem_of_getElem? z))⟩
theorem bg.on(h:bg w B v bs rs)(hb:Below w.1.size w w'):bg w' B v bs rs:=h.aside (al hb (fun _=>False)) (fun _ _ z=>z) (fun _ _ z=>z)
theorem bg.form(h:bg w B v bs rs):∃q c,v=.slice q rs.length c∧rs.length<=c:=by
 obtain⟨us,z,J⟩:=h.out;rcases z.2 with ⟨rfl,D⟩ | ⟨g,cap,I,rfl,_,_,E,_⟩
 ·exact⟨none,0,by rw[D],by omega⟩
 ·exact⟨_,_,rfl,E⟩
end
theorem bg.apart{bs:List Nat}{rs:List Run}(h:bg w B v bs rs){C:AV}{T:TypeId}(E:w.1[g]?=some (.cells C T))(J:T≠62):v.ownBlock≠some g:=by
 intro D;obtain⟨us,z,-⟩:=h.out;rcases z.2 with ⟨z,_⟩ | ⟨L,cap,K,z,_,I,_⟩
 ·rw[z] at D;cases D
 ·rw[z] at D;simp only[Value.ownBlock,Option.some.injEq] at D;subst D;rw[I] at E;injection E with h4;injection h4 with _ h5;exact J h5.symm
theorem fp{cap:Nat}(h:bh w B g cap l):∃C,w.1[g]?=some (.cells C 5):=by
 rcases h.2 with ⟨z,_⟩ | ⟨J,I,D,z,_,E,_⟩
 ·cases z
 ·cases z
  exact⟨D,E⟩
theorem eP(h:Has w B v l)(z:v.ownBlock=some g):∃C,w.1[g]?=some (.cells C 5):=by
 rcases h.2 with ⟨D,_⟩ | ⟨K,J,E,D,_,I,_⟩
 ·rw[D] at z;cases z
 ·rw[D] at z;simp only[Value.ownBlock,Option.some.injEq] at z;subst z;exact⟨E,I⟩
theorem bg.block{bs:List Nat}{rs:List Run}(h:bg w B v bs rs):∀k∈bs,∃C,w.1[k]?=some (.cells C 5):=by
 obtain⟨us,K,L,D⟩:=h.out;intro k I;obtain⟨j,E,rfl⟩:=List.mem_iff_getElem.1 I;obtain⟨g,cap,z,_,_,J⟩:=D j (by omega);rw[List.getElem?_eq_getElem E] at z;injection z with z;rw[z];exact fp J
theorem na{ad H:Nat}{bs:List Nat}{rs:List Run}(L:bg w B v bs rs)(k:Nat)(I:L8)(D c2:Nat)(U:bh w B D c2 I)(a6:w.1[ad]?=some (.cells #[.int .i64 k,.slice (some ⟨D,0,none⟩) I.length c2] 62 (0,0)))(bp:rs.length<=1000000000)(a3:B<=w.1.size)(a4:w.1.size=H){X:Array Oper}{rest:List Oper}{o:Oper}{a:Act}{M:Exit->Act->World->Prop}{y x:Operand}(a8:o.guard=none)(be:o.op=Op.call { callee:=Callee.builtin Builtin.append,args:=#[y,x],argTypes:=#[59,59] })(bi:a.eval y=v)(bk:a.eval x=.slice (some ⟨ad,0,none⟩) 1 1)(a5:∀g cap w',bg w' B (.slice (some ⟨g,0,none⟩) (rs.length+1) cap) (bs++[D]) (rs++[(k,I)])->Aside (fun j=>v.ownBlock=some j) w w'->(v.ownBlock=some g∨g=H)->wpList Tryz.prog X M rest (a.put o.dst (.slice (some ⟨g,0,none⟩) (rs.length+1) cap)) w'):
  wpList Tryz.prog X M (o::rest) a w:=by
 obtain⟨i,a9,bn,bj,a7⟩:=info_parts wY;obtain⟨us,Q,S,ak⟩:=L.out
 refine wpList_append_lies w a8 y x 59 be B 62 i (.agg #[.int .i64 0,.slice none 0 0]) 2 32 Tryz.underlying59 a9 bn bj a7 rfl (by decide) v rs.length us bi Q ⟨ad,0,none⟩ 1 1 _ bk (by simp)
  (World.news_of_block a6) (by intro a z;simp at z;rcases z with rfl | rfl <;> rfl) (by decide) (by unfold maxLen;omega) (by omega) a3 H a4 fun g cap w' a0 a1 a2 _=>?_
 have z:=cK a1;have V:us.length=rs.length*2:=Q.1;refine a5 g cap w' ⟨us++[.int .i64 k,.slice (some ⟨D,0,none⟩) I.length c2],?_,by simp[S],fun j bb=>?_⟩ z a2
 ·rw[List.length_append,List.length_singleton];simpa using a0
 ·by_cases E:j<rs.length
  ·obtain⟨aj,Y,Z,ab,ah,O⟩:=ak j E;refine⟨aj,Y,?_,?_,?_,?_⟩
   ·rw[List.getElem?_append_left (by omega)];exact Z
   ·rw[List.getElem?_append_left (by omega),ab,List.getElem_append_left E]
   ·rw[List.getElem?_append_left (by omega),ah,List.getElem_append_left E]
   ·rw[List.getElem_append_left E];obtain⟨C,J⟩:=fp O;exact gD O z (fun K=>L.apart J (by decide) K)
  ·have bc:j=rs.length:=(by rw[List.length_append,List.length_singleton] at bb;omega);subst bc;obtain⟨C,J⟩:=fp U;refine⟨D,c2,?_,?_,?_,?_⟩
   ·rw[List.getElem?_append_right (by omega),S];simp
   ·rw[List.getElem?_append_right (by omega),V];simp
   ·rw[List.getElem?_append_right (by omega),V,show rs.length*2+1-rs.length*2=1 by omega];simp
   ·simp only[List.getElem_append_right gQx,Nat.sub_self,List.getElem_cons_zero];exact gD U z (fun K=>L.apart J (by decide) K)
structure FI(w wr:World)(B g:Nat)(v rv v':Value)(bs:List Nat)(d:Sp)(m:L8):Prop where
 spl:Spl wr B g v' (d.run m)
 runs:bg wr w.1.size rv bs (d.tolds m)
 aside:Aside (fun i=>i=g∨v.ownBlock=some i) w wr
 own:∀k,v'.ownBlock=some k->v.ownBlock=some k∨w.1.size<=k
 off:∀k∈bs,v'.ownBlock≠some k
section
variable {w wr w1 w2:World} {B g:Nat} {v rv v' v2:Value} {bs:List Nat} {d:Sp} {m:L8} {c:UInt8}
theorem FI.keeps(h:FI w wr B g v rv v' bs d m)(J:Nxt wr w1 B g v' v2 (d.run m) c)(hb:Below w1.1.size w1 w2):bg w2 w.1.size rv bs (d.tolds m)∧(∀k∈bs,v2.ownBlock≠some k):=by
 constructor
 ·refine(h.runs.aside J.aside (fun k E z=>?_) (fun k E z=>?_)).on hb
  ·rcases z with z | z
   ·subst z;exact h.runs.apart h.spl.lies (by decide) E
   ·obtain⟨C,D⟩:=eP h.spl.held z;exact h.runs.apart D (by decide) E
  ·rcases z with z | z
   ·subst z;obtain⟨C,D⟩:=h.runs.block k E;rw[h.spl.lies] at D;injection D with D;injection D with _ D;exact absurd D (by decide)
   ·exact h.off k E z
 ·intro k E z;rcases J.own k z with I | I
  ·exact h.off k E I
  ·have:=(h.runs.mem k E).2;omega
theorem Nxt.later(z:Nxt wr w1 B g v' v2 d c)(hb:Below w1.1.size w1 w2):Nxt wr w2 B g v' v2 d c:=z.beside (F:=fun _=>False) (al hb _) (fun h=>h) (fun _ _ h=>h) (fun _ _ h=>h)
theorem sT(h:FI w wr B g v rv v' bs d m)(K:Nxt wr w1 B g v' v2 (d.run m) c)(Q:(d.run m).told c=[])(hb:Below w1.1.size w1 w2)(n:Nat)(M:n=(d.run m).n+1):FI w (w2.setCell ⟨g,0,none⟩ (.int .i64 (n:Int))) B g v rv v2 bs d (m++[c]):=by
 subst M;have J:=K.later hb;obtain⟨L,S⟩:=h.keeps K hb;have V:=h.aside.size;have O:Aside (·=g) w2 (w2.setCell ⟨g,0,none⟩ (.int .i64 (((d.run m).n+1:Nat):Int))):=(Aside.refl (·=g) w2).setCell (p:=⟨g,0,none⟩) (.inl rfl) _;refine⟨?_,?_,?_,?_,S⟩
 ·rw[Sp.run_snoc];exact J.spl h.spl
 ·rw[Sp.tolds_snoc,Q,List.append_nil];refine L.aside O (fun k I z=>?_) (fun k I z=>?_)
  ·subst z;exact L.apart J.lies (by decide) I
  ·subst z;obtain⟨C,D⟩:=L.block k I;rw[J.lies] at D;injection D with D;injection D with _ D;exact absurd D (by decide)
 ·refine(h.aside.trans J.aside (fun i U z=>?_)).setCell (p:=⟨g,0,none⟩) (.inl (.inl rfl)) _;rcases z with z | z
  ·exact .inl z
  ·rcases h.own i z with E | E
   ·exact .inr E
   ·omega
 ·intro k I;rcases K.own k I with E | E
  ·exact h.own k E
  ·exact .inr (by omega)
theorem sS{Z:Value}{M:Nat}{Y:L8}(h:FI w wr B g v rv v' bs d m)(S:Nxt wr w1 B g v' v2 (d.run m) c)(a1:(d.run m).told c=[(k,Y)])(hb:Below w1.1.size w1 w2)(a0:v2.ownBlock≠some M)(Q:Aside (fun j=>rv.ownBlock=some j) w2 W)(O:bg W w.1.size Z (bs++[M]) (d.tolds m++[(k,Y)]))(n:Nat)(ab:n=(d.run m).n+1):FI w (W.setCell ⟨g,0,none⟩ (.int .i64 (n:Int))) B g v Z v2 (bs++[M]) d (m++[c]):=by
 subst ab;have J:=S.later hb;obtain⟨U,a3⟩:=h.keeps S hb;have a4:=h.aside.size;have ak:∀j,rv.ownBlock=some j->w.1.size<=j:=fun j K=>(U.lt j K).1;have ah:rv.ownBlock≠some g:=U.apart J.lies (by decide);have a2:∀j,v2.ownBlock=some j->¬rv.ownBlock=some j:=fun j K=>by
  obtain⟨C,E⟩:=eP J.held K;exact U.apart E (by decide)
 have L:W.1[g]?=_:=(Q.block g (dB J.lies) ah).trans J.lies;have V:=J.held.aside Q a2;have X:Aside (·=g) W (W.setCell ⟨g,0,none⟩ (.int .i64 (((d.run m).n+1:Nat):Int))):=(Aside.refl (·=g) W).setCell (p:=⟨g,0,none⟩) (.inl rfl) _;refine⟨?_,?_,?_,?_,?_⟩
 ·rw[Sp.run_snoc];refine⟨jO L 0 _ (by rw[Sp.step_n];rfl),V.aside X (fun j K z=>bz V L (by decide) (by rw[K,z])),h.spl.base⟩
 ·rw[Sp.tolds_snoc,a1];refine O.aside X (fun k I z=>?_) (fun k I z=>?_)
  ·subst z;exact O.apart L (by decide) I
  ·subst z;obtain⟨C,E⟩:=O.block k I;rw[L] at E;injection E with E;injection E with _ E;exact absurd E (by decide)
 ·refine((h.aside.trans J.aside (fun i aj z=>?_)).trans Q (fun i aj z=>?_)).setCell (p:=⟨g,0,none⟩) (.inl (.inl rfl)) _
  ·rcases z with z | z
   ·exact .inl z
   ·rcases h.own i z with D | D
    ·exact .inr D
    ·omega
  ·have:=ak i z;omega
 ·intro k I;rcases S.own k I with D | D
  ·exact h.own k D
  ·exact .inr (by omega)
 ·intro k I;rcases List.mem_append.1 I with D | D
  ·exact a3 k D
  ·rw[List.mem_singleton.1 D];exact a0
end
theorem FI.start{d:Sp}(h:Spl w B g v d):FI w w B g v (.slice none 0 0) v [] d [] :=
 ⟨h,by rw[Sp.tolds_nil];exact lw _ _,Aside.refl _ _,fun _ h=>.inl h,fun _ h=>by cases h⟩
end
section
open Go.RowKit
attribute [local go_sem] aX
theorem xS(w:World)(B g:Nat)(v:Value)(d:Sp)(p:OA)(c:Nat)(l:L8)(h:Spl w B g v d)(a7:At w p l)(S:l≠[]->∀b o,p=some ⟨b,o,none⟩->b≠g∧v.ownBlock≠some b)(bi:d.n+l.length<=100000000):Calls Tryz.prog 38 #[.pointer (some ⟨g,0,none⟩),.slice p l.length c] w fun e w'=>∃q cap v' bs,e=.returned (.slice q (d.tolds l).length cap)∧FI w w' B g v (.slice q (d.tolds l).length cap) v' bs d l:=by
  have a1:=gQq (FI.start h);have bq:Hid (∀wr,Aside (fun i=>i=g∨v.ownBlock=some i) w wr->At wr p l):=fun wr b6=>by
    by_cases Y:l=[]
    · exact .inl Y
    · exact a7.aside b6 (fun b o hb Q=>by
        rcases Q with Q | Q
        · exact(S Y b o hb).1 Q
        · exact(S Y b o hb).2 Q)
  have cg:l.length<=100000000:=by omega
  have b0:=gQq bi;clear h a7 S bi;go_enter Tryz.func38,Tryz.ntmps38;go_wp2;go_loopw [5,11] (fun cb a0 wr=>∃(i:Nat) (v':Value) (bs:List Nat),i<=l.length∧a0=.int .i64 i∧Hid (FI w wr B g v cb v' bs d (l.take i))) (fun _ a0 _=>l.length-(intOf a0).toNat);case atStart=>exact⟨0,v,[],by omega,rfl,a1.out⟩
  case round=>
    clear a1;obtain⟨i,v',bs,cf,rfl,I⟩:=hrel;obtain⟨bp,bn,b7,-⟩:=I.out.runs.form;subst b7;by_cases bc:i<l.length
    · have ck:(i:Int)<(l.length:Int):=(by omega);obtain⟨b,o,S,-,a9⟩:=aC (bq.out wr I.out.aside) (by omega);subst S;have bb:=a9 i bc;obtain⟨x,ak⟩:∃x,x=l[i]:=⟨_,rfl⟩;rw[<-ak] at bb;have a4:Hid (l.take (i+1)=l.take i++[x]):=by
        show _=_;rw[List.take_succ_eq_append_getElem bc,ak]
      clear a9 ak;obtain⟨z,V⟩:∃z,z=d.run (l.take i):=⟨_,rfl⟩;have ce:z.n<=100000000:=by
        have:=b0.out;rw[V,Sp.run_n,List.length_take];omega
      have L:=gQq V;have X:Spl wr B g v' z:=(by rw[V];exact I.out.spl);have c3:wr.cell? ⟨g,3,none⟩=some (cP g z.op):=bW X.lies 3;have a5:=gQq (zj wr B g v' z x X);have a2:=gQq (fun k=>zC wr B g v' z k x X);clear X V;rcases hop:z.op with _ | k
      case' none=>
        rw[hop] at c3;simp only[cP] at c3;go_wp2_with fail;refine(a5.out hop).mono ?_
      case' some=>
        rw[hop] at c3;simp only[cP] at c3;go_wp2_with fail;refine(a2.out k hop).mono ?_
      all_goals
        clear a5 a2 c3 hop bb;rintro e w1 ⟨v2,a,u,rfl,J,b5⟩;rcases b5 with ⟨U,bk,a6,rfl⟩ | ⟨k,D,E,c2,U,b9,rfl,rfl,be,bj⟩
        · have K:Below w1.1.size w1 (w1.alloc (.cells #[.int .i64 a,.slice bk 0 a6] 62)):=gQy;have ah:=jx J.lies K;have z0:(w1.alloc (.cells #[.int .i64 a,.slice bk 0 a6] 62)).cell? ⟨g,0,none⟩=some (.int .i64 z.n):=bW ah 0;have cc:=gA ah 0;have M:=gQq J;have O:=gQq U;clear J U ah;go_wp2;go_roundw;case rel=>
            refine⟨i+1,v2,bs,by omega,by go_num,?_⟩;rw[L.out] at M O;show FI w _ _ _ _ _ _ _ _ _;rw[a4.out];have:=sT I.out M.out O.out K (z.n+1) (by rw[L.out]);rw[show(((z.n+1:Nat):Int))=(z.n:Int)+1 by omega] at this;exact this
          case measure=>simp[intOf];omega
        · have ci:0<D.length:=List.length_pos_iff.2 b9;have cj:(0:Int)<(D.length:Int):=(by omega);have K:Below w1.1.size w1 ((w1.alloc (.cells #[.int .i64 (k:Int),.slice (some ⟨E,0,none⟩) D.length c2] 62)).alloc (.cells #[.int .i64 (k:Int),.slice (some ⟨E,0,none⟩) D.length c2] 62)):=gQy.alloc (by simp) _;have M:=gQq J;have O:=gQq U;have Z:=(I.out.keeps (by rw[<-L.out];exact J) K).1;have ca:=I.out.aside.size;have cn:=J.aside.size;have b3:=gQq Z;have bX:=gQq (j7 (B':=w.1.size) (Has.on (v:=.slice (some ⟨E,0,none⟩) D.length c2) be K) ca);have br:Hid (((w1.alloc (.cells #[.int .i64 (k:Int),.slice (some ⟨E,0,none⟩) D.length c2] 62)).alloc (.cells #[.int .i64 (k:Int),.slice (some ⟨E,0,none⟩) D.length c2] 62)).1[w1.1.size+1]?=some (.cells #[.int .i64 (k:Int),.slice (some ⟨E,0,none⟩) D.length c2] 62)):=by
            show _=_;have:=bC (w1.alloc (.cells #[.int .i64 (k:Int),.slice (some ⟨E,0,none⟩) D.length c2] 62)) (.cells #[.int .i64 (k:Int),.slice (some ⟨E,0,none⟩) D.length c2] 62);simpa using this
          have bT:Hid ((d.tolds (l.take i)).length<=1000000000):=by
            show _<=_;have:=Sp.tolds_len d (l.take i);rw[List.length_take] at this;omega
          have b1:=gQq bj;have a3:=gQq (jx J.lies K);have bN:=gQq (Z.apart (jx J.lies K) (by decide));clear J U Z be bj
          go_wp2_with (at_builtin;refine na b3.out k D E c2 bX.out br.out bT.out (by simp;omega) rfl rfl rfl rfl rfl ?_;intro cd c3 W a8 ab _;have aj:W.1[g]?=_:=(ab.block g (dB a3.out) bN.out).trans a3.out;have z0:W.cell? ⟨g,0,none⟩=some (.int .i64 z.n):=bW aj 0;have cc:=gA aj 0;have b2:=gQq a8;have b4:=gQq ab;clear a8 ab aj)
          go_roundw;case rel=>
            refine⟨i+1,v2,bs++[E],by omega,by go_num,?_⟩;rw[L.out] at M O;show FI w _ _ _ _ _ _ _ _ _;rw[a4.out];have:=sS I.out M.out O.out K b1.out b4.out b2.out (z.n+1) (by rw[L.out]);rw[show(((z.n+1:Nat):Int))=(z.n:Int)+1 by omega] at this;exact this
          case measure=>simp[intOf];omega
    · have b8:i=l.length:=(by omega);subst b8;have bO:Hid (FI w wr B g v (.slice bp (d.tolds l).length bn) v' bs d l):=by
        have:=I.out;rw[List.take_length] at this;exact this
      rw[List.take_length];clear I;go_wp2;go_ret;exact⟨bp,bn,v',bs,rfl,bO.out⟩
end
section
open Go.RowKit
attribute [local go_sem] aX
theorem zm(w:World):Calls Tryz.prog 35 #[] w fun e w'=>∃g v,e=.returned (.pointer (some ⟨g,0,none⟩))∧Spl w' w.1.size g v Sp.start∧Below w.1.size w w':=by
 have D:(w.alloc (.cells (bQ 0 0 (.slice none 0 0) .nilFunc) 139)).1[w.1.size]?=some (.cells (bQ 0 0 (.slice none 0 0) .nilFunc) 139):=bC w _;have z:=gQq (jz w.1.size 0 0 0 none 0 .nilFunc _ none D);simp only[opI] at z;go_enter Tryz.func35,Tryz.ntmps35;go_wp2_with fail;refine z.out.mono ?_;rintro e w1 ⟨rfl,I,E⟩;go_wp2;go_ret;refine⟨w.1.size,_,rfl,⟨I,aM _ _,gQx⟩,?_⟩;exact((Below.refl w.1.size w).alloc gQx _).trans (E.below (by simp) (fun k K J=>by omega))
theorem bg.low{bs:List Nat}{rs:List Run}(h:bg w B v bs rs)(O:B'<=B):bg w B' v bs rs:=by
 obtain⟨us,z,S,K⟩:=h.out;refine⟨us,⟨z.1,?_⟩,S,fun j Q=>?_⟩
 ·rcases z.2 with L | ⟨g,cap,D,rfl,V,M⟩
  ·exact .inl L
  ·exact .inr ⟨g,cap,D,rfl,by omega,M⟩
 ·obtain⟨g,cap,E,I,J,U⟩:=K j Q;exact⟨g,cap,E,I,J,j7 U O⟩
theorem zg(w:World)(p:OA)(c:Nat)(l:L8)(U:At w p l)(a1:l.length<=100000000):Calls Tryz.prog 30 #[.slice p l.length c] w fun e w'=>∃q cap bs,e=.returned (.slice q (Sp.of l).out.length cap)∧bg w' w.1.size (.slice q (Sp.of l).out.length cap) bs (Sp.of l).out∧Below w.1.size w w':=by
 have Q:=gQq (zm w);have I:=gQq U;clear U;go_enter Tryz.func30,Tryz.ntmps30;go_wp2_with fail;refine Q.out.mono ?_;rintro e w1 ⟨g,v,rfl,D,hb⟩;have M:=gQq (xS w1 w.1.size g v Sp.start p c l D (I.out.on hb) (fun ab b o E=>by
  rcases I.out with Y | ⟨ah,a2,Z,aj,ak⟩
  ·exact absurd Y ab
  ·rw[Z] at E;injection E with E;injection E with e1 _;subst e1
   exact⟨by have:=D.base;omega,fun z=>by have:=(D.held.lt _ z).1;omega⟩) (by simp[Sp.start];omega))
 have K:=gQq hb;have S:=gQq D;have L:Hid (Sp.start.tolds l=(Sp.of l).out):=by
  show _=_;have:=Sp.tolds_out Sp.start l;simpa[Sp.start,Sp.of] using this.symm
 clear D hb Q I;go_wp2_with fail;refine M.out.mono ?_;rintro e w2 ⟨q,cap,v',bs,rfl,J⟩;rw[L.out] at J ⊢;have O:=gQq J;clear J M;go_wp2;go_ret;have V:=O.out.runs;rw[L.out] at V;have X:=K.out.size;refine⟨q,cap,bs,rfl,V.low X,K.out.trans (O.out.aside.below X (fun k a0 z=>?_))⟩;rcases z with z | z
 ·have:=S.out.base;omega
 ·have:=(S.out.held.lt _ z).1;omega
end
end Go.Proofs.YtbahfgdbjgkklaaGreatDoor
