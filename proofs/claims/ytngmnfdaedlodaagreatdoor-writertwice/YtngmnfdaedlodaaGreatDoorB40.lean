import Derived.Test.YtngmnfdaedlodaaGreatDoorC5
set_option maxHeartbeats 4000000
namespace Go.Proofs.YtngmnfdaedlodaaGreatDoor
open Go.Proofs.Tryz
open Option renaming none->I,some->U
open Go.Value renaming slice->Y,int->O,pointer->mE
open Go.IntKind renaming i64->R
open Go.Obj renaming cells->qj
open Or renaming inl->qv
open Go renaming Value->AQ,World->wv
open Go.RowKit renaming Below->AX
open Go.Proofs.Tryz renaming prog->AW
open Go.Ending renaming returned->qz
variable{B B' g k n:Nat}{W w w1:wv}{l:L8}{u v v' x y:AQ}{q:OA}{T:TypeId}{o:Obj}
section
open Go.RowKit
def bM(n:Nat)(k:Int)(v f:AQ):AV:=#[O R n,O R k,v,f]
def opI:Option Nat->Int
 |some k=>k
 |none=>-1
def cK(g:Nat):Option Nat->AQ
 |some _=>.func (.func 205) #[mE (U ⟨g,0,I⟩)] #[]
 |none=>.func (.func 206) #[mE (U ⟨g,0,I⟩)] #[]
theorem aY(P:Program)(w:wv)(a:Addr)(m:Mode)(fn:Fn)(first captured:AV):(store a (.func fn first captured) m).run P w=stored P w a (.func fn first captured) m:=run_store P w a _ m rfl
attribute [local go_sem] aY
theorem bV{k:Int}{f:AQ}(h:w.1[g]?=U (qj (bM n k v f) 294))(i:Nat):w.cell? ⟨g,i,I⟩=(bM n k v f)[i]?:=by
 unfold World.cell?;rw[h];rfl
theorem fQ{k:Int}{f:AQ}(h:w.1[g]?=U (qj (bM n k v f) 294))(i:Nat):w.frozen? ⟨g,i,I⟩=false:=by
 simp[World.frozen?,h]
theorem ji{n':Nat}{k k':Int}{f f':AQ}(h:w.1[g]?=U (qj (bM n k v f) 294))(i:Nat)(u:AQ)(A:bM n' k' v' f'=(bM n k v f).setIfInBounds i u):(w.setCell ⟨g,i,I⟩ u).1[g]?=U (qj (bM n' k' v' f') 294):=by
 simp only[World.setCell,Array.getElem?_modify,h,if_true,Option.map_some];rw[AJ (by simp),A]
theorem i7(g n m:Nat)(k:Int)(q:OA)(cap:Nat)(f:AQ)(w:wv)(op:Option Nat)(h:w.1[g]?=U (qj (bM n k (Y q m cap) f) 294)):Calls AW 198 #[mE (U ⟨g,0,I⟩),O R (opI op)] w fun e w'=>e=qz (.tuple #[])∧w'.1[g]?=U (qj (bM n (opI op) (Y q 0 cap) (cK g op)) 294)∧Aside (·=g) w w':=by
 have c2:w.cell? ⟨g,2,I⟩=U (Y q m cap):=bV h 2;have f1:=fQ h 1;have X:=fQ h 2;have Z:=fQ h 3;have c1:w.cell? ⟨g,1,I⟩=U (O R k):=bV h 1;have c3:w.cell? ⟨g,3,I⟩=U f:=bV h 3;have K:(w.setCell ⟨g,1,I⟩ (O R (opI op))).1[g]?=U (qj (bM n (opI op) (Y q m cap) f) 294):=ji h 1 _ rfl;have L:((w.setCell ⟨g,1,I⟩ (O R (opI op))).setCell ⟨g,2,I⟩ (Y q 0 cap)).1[g]?=U (qj (bM n (opI op) (Y q 0 cap) f) 294):=ji K 2 _ rfl;have M:(((w.setCell ⟨g,1,I⟩ (O R (opI op))).setCell ⟨g,2,I⟩ (Y q 0 cap)).setCell ⟨g,3,I⟩ (cK g (U 0))).drew.1[g]?=U (qj (bM n (opI op) (Y q 0 cap) (cK g (U 0))) 294):=ji L 3 _ rfl;have Q:Aside (·=g) w (((w.setCell ⟨g,1,I⟩ (O R (opI op))).setCell ⟨g,2,I⟩ (Y q 0 cap)).setCell ⟨g,3,I⟩ (cK g (U 0))).drew:=((((Aside.refl (·=g) w).setCell (p:=⟨g,1,I⟩) (qv rfl) _).setCell (p:=⟨g,2,I⟩) (qv rfl) _).setCell (p:=⟨g,3,I⟩) (qv rfl) _).drew;have A:=gQq M;have D:=gQq Q;clear h K L M Q;cases op with
 |some k'=>
  have V:(((k':Nat):Int)==-1)=false:=by rw[AM];omega
  simp only[opI,cK] at A D ⊢;cases q with
  |none=>
   go_enter func198,ntmps198;go_wp2_with fail;go_region_law (fail)
   all_goals
    go_wp2;go_end0;exact⟨rfl,A.out,D.out⟩
  |some a=>
   go_enter func198,ntmps198;go_wp2_with fail;go_region_law (fail)
   all_goals
    go_wp2;go_end0;exact⟨rfl,A.out,D.out⟩
 |none=>
  simp only[opI,cK] at A D ⊢;have J:=gQq (ji (n':=n) (k':=-1) (v':=Y q 0 cap) (f':=cK g I) A.out 3 (cK g I) rfl);have E:=gQq (D.out.setCell (p:=⟨g,3,I⟩) (qv rfl) (cK g I));have ab:=fQ A.out 3;have S:=bV A.out 3;simp only[cK] at J E;cases q with
  |none=>
   go_enter func198,ntmps198;go_wp2_with fail;go_region_law (fail)
   all_goals
    go_wp2;go_end0;exact⟨rfl,J.out,E.out⟩
  |some a=>
   go_enter func198,ntmps198;go_wp2_with fail;go_region_law (fail)
   all_goals
    go_wp2;go_end0;exact⟨rfl,J.out,E.out⟩
end
section
open Go.RowKit
attribute [local go_sem] aY
structure Spl(w:wv)(B g:Nat)(v:AQ)(d:Sp):Prop where
 lies:w.1[g]?=U (qj (bM d.n (opI d.op) v (cK g d.op)) 294)
 held:Has w B v d.held
 base:B<=g
theorem bA(h:Has w B v l){C:AV}{T:TypeId}(E:w.1[g]?=U (qj C T))(K:T≠5):v.ownBlock≠U g:=by
 intro A;rcases h.2 with ⟨D,_⟩ | ⟨M,cap,L,D,_,J,_⟩
 ·rw[D] at A;cases A
 ·rw[D] at A;simp only[Value.ownBlock,Option.some.injEq] at A;subst A;rw[J] at E;injection E with h4;injection h4 with _ h5;exact K h5.symm
def uZ(w':wv)(Z:Nat)(v':AQ)(rs:List Run)(a:Int)(u:AQ):Prop :=
 (rs=[]∧∃p c,u=Y p 0 c)∨∃k l g cap,rs=[(k,l)]∧l≠[]∧a=(k:Int)∧u=Y (U ⟨g,0,I⟩) l.length cap∧bo w' Z g cap l∧v'.ownBlock≠U g
structure Nxt(w w':wv)(B g:Nat)(v v':AQ)(d:Sp)(c:UInt8):Prop where
 lies:w'.1[g]?=U (qj (bM d.n (opI (d.step c).op) v' (cK g (d.step c).op)) 294)
 held:Has w' B v' (d.step c).held
 aside:Aside (fun i=>i=g∨v.ownBlock=U i) w w'
 own:∀i,v'.ownBlock=U i->v.ownBlock=U i∨w.1.size<=i
theorem oF(n c:Nat)(w:wv):(binOp .eql 40 (Y I n c) (Y I 0 0)).run AW w=.ok (.bool true) w:=by kernel_rfl
theorem oE(a:Addr)(n c:Nat)(w:wv):(binOp .eql 40 (Y (U a) n c) (Y I 0 0)).run AW w=.ok (.bool false) w:=by kernel_rfl
theorem uL(p:OA)(c:Nat)(l:L8)(ah:l.length<=1000000)(w:wv)(h:At w p l):Calls AW 215 #[Y p l.length c] w fun e w'=>∃q cap,e=qz (Y q l.length cap)∧Has w' w.1.size (Y q l.length cap) l∧AX w.1.size w w':=by
  cases p with
  |none=>
    have S:l=[]:=by
      rcases h with rfl | ⟨b,o,X,_,_⟩
      · rfl
      · cases X
    subst S;have Z:=oF 0 c w;go_enter func215,ntmps215;go_wp2;go_ret;exact⟨I,0,rfl,bF _ _,gQz⟩
  |some a=>
    have K:=gQq (h.on ((Below.refl _ w).alloc gQx (qj #[] 5)));have A:=gQq (mV w).has;have L:Hid (AX w.1.size w (w.alloc (qj #[] 5))):=gQy;have Z:=oE a l.length c w;clear h;go_enter func215,ntmps215
    go_wp2_with (first|(at_builtin;refine aC (xs:=[]) A.out K.out (by simp;omega) (by simp) rfl rfl rfl rfl rfl ?_;intro ab q cap W Q J E V;have M:=gQq (aB E A.out (by simp));have D:=gQq J;clear E V J)|fail)
    go_ret;have e:ab=l:=Q.out;rw[e] at D;rw[e];exact⟨q,cap,rfl,D.out,L.out.trans M.out⟩
theorem iZ{w':wv}{C:AV}(h:w.1[g]?=U (qj C T))(hb:AX w.1.size w w'):w'.1[g]?=U (qj C T):=by
 rw[hb.block g (Array.getElem?_eq_some_iff.1 h).1];exact h
theorem dc(h:w.1[g]?=U o):g<w.1.size:=(Array.getElem?_eq_some_iff.1 h).1
def set2(w:wv)(g:Nat)(a b:AQ):World:=(w.setCell ⟨g,0,I⟩ a).setCell ⟨g,1,I⟩ b
theorem dE(h:w.1[g]?=U (qj #[x,y] T))(a b:AQ):(set2 w g a b).1[g]?=U (qj #[a,b] T):=by
 have A:(w.setCell ⟨g,0,I⟩ a).1[g]?=U (qj #[a,y] T):=by
  simp only[World.setCell,Array.getElem?_modify,h,if_true,Option.map_some];rfl
 unfold set2;simp only[World.setCell,Array.getElem?_modify] at A ⊢;simp only[A,if_true,Option.map_some];rfl
theorem fP(w:wv)(g:Nat)(a b:AQ):Aside (fun j=>j=g) w (set2 w g a b):=((Aside.refl (fun j=>j=g) w).setCell (p:=⟨g,0,I⟩) (qv rfl) _).setCell (p:=⟨g,1,I⟩) (qv rfl) _
theorem dh(w:wv):(w.alloc (qj #[O R 0,Y I 0 0] 240)).1[w.1.size]?=U (qj #[O R 0,Y I 0 0] 240):=aU w _
section
variable {w w':wv} {B g:Nat} {v v':AQ} {d:Sp} {c:UInt8}
theorem Spl.lt(h:Spl w B g v d):g<w.1.size:=dc h.lies
theorem Spl.apart(h:Spl w B g v d):v.ownBlock≠U g:=bA h.held h.lies (by decide)
theorem Spl.aside{F:Nat->Prop}(h:Spl w B g v d)(A:Aside F w w')(D:¬F g)(E:∀k,v.ownBlock=U k->¬F k):Spl w' B g v d :=
 ⟨by rw[A.block g h.lt D];exact h.lies,h.held.aside A E,h.base⟩
theorem Spl.on(h:Spl w B g v d)(hb:AX w.1.size w w'):Spl w' B g v d:=h.aside (af hb (fun _=>False)) (fun h=>h) (fun _ _ h=>h)
theorem Nxt.beside{F:Nat->Prop}(h:Nxt w w' B g v v' d c)(A:Aside F w' w1)(J:¬F g)(L:∀k,v'.ownBlock=U k->¬F k)(D:∀k,k<w.1.size->¬F k):Nxt w w1 B g v v' d c :=
 ⟨by rw[A.block g (dc h.lies) J];exact h.lies,h.held.aside A L,h.aside.trans A (fun i K E=>absurd E (D i K)),h.own⟩
theorem Nxt.spl(h:Nxt w w' B g v v' d c)(E:Spl w B g v d):Spl (w'.setCell ⟨g,0,I⟩ (O R ((d.n+1:Nat):Int))) B g v' (d.step c):=by
 refine⟨?_,?_,E.base⟩
 ·refine ji h.lies 0 _ ?_;rw[Sp.step_n];rfl
 ·exact h.held.aside ((Aside.refl (·=g) w').setCell (p:=⟨g,0,I⟩) (qv rfl) _) (fun j D A=>bA h.held h.lies (by decide) (by rw[D,A]))
end
theorem Has.cut0{m cap:Nat}(h:Has w B (Y q m cap) l):Has w B (Y q 0 cap) []:=by
 refine⟨rfl,?_⟩;rcases h.2 with ⟨A,S⟩ | ⟨E,Q,D,A,J,K,V,L,M,X⟩
 ·cases A
  exact qv ⟨rfl,rfl⟩
 ·cases A
  exact .inr ⟨E,cap,D,rfl,J,K,by simp,L,M,by simp[cellsOf]⟩
theorem fR{w2:wv}{m cap:Nat}{d:Sp}{c:UInt8}{op:Option Nat}(h:Spl w1 B g (Y q m cap) d)(E:AX w.1.size w w1)(J:w2.1[g]?=U (qj (bM d.n (opI op) (Y q 0 cap) (cK g op)) 294))(D:Aside (·=g) w1 w2)(Q:(d.step c).op=op)(K:(d.step c).held=[]):Nxt w w2 B g (Y q m cap) (Y q 0 cap) d c:=by
 refine⟨by rw[Q];exact J,?_,?_,fun i L=>?_⟩
 ·rw[K];exact(h.held.cut0).aside D (fun j M A=>h.apart (by rw[<-A,<-M];cases q <;> rfl))
 ·have:=(af E (fun i=>i=g∨(Y q m cap).ownBlock=U i)).trans D (fun i _ A=>qv A);exact this
 ·left;rw[<-L];cases q <;> rfl
theorem iV{N:Nat}{d:Sp}{c:UInt8}(h:Nxt w w1 B g v v' d c)(E:w1.1[N]?=U (qj #[x,y] 240))(K:w.1.size<=N)(J:g<w.1.size)(a b:AQ):Nxt w (set2 w1 N a b) B g v v' d c :=
 h.beside (fP w1 N a b) (by omega) (fun k D A=>bA h.held E (by decide) (by rw[D,A])) (fun k D A=>by omega)
theorem qL{A cap N:Nat}(h:bo w1 A g cap l)(D:w1.1[N]?=U (qj #[x,y] 240))(a b:AQ):bo (set2 w1 N a b) A g cap l :=
 Has.aside (v:=Y (U ⟨g,0,I⟩) l.length cap) h (fP w1 N a b) (fun k J E=>bA (v:=Y (U ⟨g,0,I⟩) l.length cap) h D (by decide) (by rw[J,E]))
theorem yW(w:wv)(B g:Nat)(v:AQ)(d:Sp)(c:UInt8)(h:Spl w B g v d)(Q:d.op=I):Calls AW 206 #[mE (U ⟨g,0,I⟩),O .u8 (c.toNat:Int)] w fun e w'=>∃v' a u,e=qz (.agg #[O R a,u])∧Nxt w w' B g v v' d c∧uZ w' w.1.size v' (d.told c) a u:=by
 obtain⟨p,cap,a4,-,-⟩:=h.held.at;subst a4;obtain⟨A,M⟩:∃A,A=w.alloc (qj #[O R 0,Y I 0 0] 240):=⟨_,rfl⟩;have hb:AX w.1.size w A:=by rw[M];exact gQy
 have E:A.1[w.1.size]?=U (qj #[O R 0,Y I 0 0] 240):=by rw[M];exact dh w
 have J:=h.on hb;have X:Hid (d.told c=[]):=Sp.told_none Q c;have a3:=h.lt;have a1:g≠w.1.size:=by omega
 have a0:=gQq J;have aw:=gQq hb;by_cases D:c=0
 ·have c0:A.cell? ⟨g,0,I⟩=U (O R d.n):=bV J.lies 0;have S:=gQq (i7 g d.n d.held.length (opI d.op) p cap (cK g d.op) A (U d.n) J.lies);simp only[opI] at S;have aj:(c.toNat:Int)=0:=by rw[D];rfl
  have L:=gQq E;rw[aj,D];rw[D] at X;clear h D hb J E aj;subst M;go_enter func206,ntmps206;go_wp2_with fail;refine S.out.mono ?_;rintro e w1 ⟨rfl,ak,ab⟩;have K:w1.1[w.1.size]?=U (qj #[O R 0,Y I 0 0] 240):=by rw[ab.block _ (dc L.out) (fun D=>a1 D.symm)];exact L.out
  have ah:=gQq K;have V:=gQq (fR (c:=0) a0.out aw.out ak ab (Sp.fence_op d) (Sp.fence_held d));have a5:w1.cell? ⟨w.1.size,0,I⟩=U (O R 0):=by simp[World.cell?,K]
  have a6:w1.cell? ⟨w.1.size,1,I⟩=U (Y I 0 0):=by simp[World.cell?,K]
  have a7:w1.frozen? ⟨w.1.size,0,I⟩=false:=by simp[World.frozen?,K]
  have a8:w1.frozen? ⟨w.1.size,1,I⟩=false:=by simp[World.frozen?,K]
  clear K ak ab S;go_wp2;refine bodyPost_ret (v:=.agg #[O R 0,Y I 0 0]) (results_cell_row rfl _ _ w.1.size _ _ _ _ rfl (dE ah.out _ _) underlying240 rfl (by kernel_rfl)) rfl ?_;exact⟨_,_,_,rfl,iV V.out ah.out gQx a3 _ _,qv ⟨X.out,_,_,rfl⟩⟩
 ·have a9:((c.toNat:Int)==0)=false:=by
   rw[AM];intro bb;exact D (UInt8.toNat_inj.1 (by simp;omega))
  have a5:A.cell? ⟨w.1.size,0,I⟩=U (O R 0):=by simp[World.cell?,E]
  have a6:A.cell? ⟨w.1.size,1,I⟩=U (Y I 0 0):=by simp[World.cell?,E]
  have a7:A.frozen? ⟨w.1.size,0,I⟩=false:=by simp[World.frozen?,E]
  have a8:A.frozen? ⟨w.1.size,1,I⟩=false:=by simp[World.frozen?,E]
  have Z:(d.step c).op=none:=Sp.step_op_none Q D;have V:Hid (Nxt w A B g (Y p d.held.length cap) (Y p d.held.length cap) d c):=by
   refine⟨?_,?_,af hb _,fun i a2=>qv a2⟩
   ·rw[Z];have:=J.lies;rw[Q] at this;exact this
   ·have:=J.held;rw[Sp.held_none Z];rw[Sp.held_none Q] at this ⊢;exact this
  have L:=gQq E;clear h D hb J E Z;subst M;go_enter func206,ntmps206;go_wp2;refine bodyPost_ret (v:=.agg #[O R 0,Y I 0 0]) (results_cell_row rfl _ _ w.1.size _ _ _ _ rfl L.out underlying240 rfl (by kernel_rfl)) rfl ?_;exact⟨_,_,_,rfl,V.out,qv ⟨X.out,_,_,rfl⟩⟩
end
section
open Go.RowKit
attribute [local go_sem] aY
structure Mid(w W:wv)(B g N k:Nat)(v u:AQ)(d:Sp):Prop where
 spl:Spl W B g v d
 has:Has W w.1.size u d.held
 var:W.1[N]?=U (qj #[O R k,u] 240)
 res:W.1[w.1.size]?=U (qj #[O R 0,Y I 0 0] 240)
 low:AX w.1.size w W
 far:w.1.size<N
theorem tJ{d:Sp}(E:o=qj #[O R 0,Y I 0 0] 240)(h:Spl (w.alloc o) B g v d)(K:Has w1 n u d.held)(D:n=(w.alloc o).1.size)(hb:AX (w.alloc o).1.size (w.alloc o) w1):Mid w (w1.alloc (qj #[O R k,u] 240)) B g w1.1.size k v u d:=by
 have A:AX w1.1.size w1 (w1.alloc (qj #[O R k,u] 240)):=gQy;have J:=hb.size;simp at J;refine⟨(h.on hb).on A,?_,aU _ _,?_,?_,by omega⟩
 ·exact(K.low (by rw[D];simp)).on A
 ·rw[A.block _ (by omega),hb.block _ (by simp),E];exact dh w
 ·exact((Below.refl w.1.size w).alloc gQx _).trans ((hb.mono (by simp)).trans (A.mono (by omega)))
theorem tI{d:Sp}(K:o=qj #[O R 0,Y I 0 0] 240)(h:Spl (w.alloc o) B g v d)(Z:g<w.1.size)(X:Has w1 n u d.held)(S:n=((w.alloc o).alloc o).1.size)(hb:AX ((w.alloc o).alloc o).1.size ((w.alloc o).alloc o) w1):Mid w (set2 w1 (w.1.size+1) (O R k) u) B g (w.1.size+1) k v u d:=by
 have E:AX (w.alloc o).1.size (w.alloc o) ((w.alloc o).alloc o):=gQy;have V:=hb.size;simp at V;have L:w1.1[w.1.size+1]?=U (qj #[O R 0,Y I 0 0] 240):=by
  rw[hb.block _ (by simp),K];have:=dh (w.alloc o);simpa[K] using this
 have A:=fP w1 (w.1.size+1) (O R k) u;have M:=(h.on E).on hb;refine⟨M.aside A (by omega) (fun j D J=>bA M.held L (by decide) (by rw[D,J])),?_,dE L _ _,?_,?_,by omega⟩
 ·have:=X.low (B':=w.1.size) (by rw[S];simp;omega);exact this.aside A (fun j D J=>bA this L (by decide) (by rw[D,J]))
 ·rw[A.block _ (by omega) (by omega),hb.block _ (by simp;omega),E.block _ (by simp),K];exact dh w
 ·have Q:AX w.1.size w w1:=((Below.refl w.1.size w).alloc gQx _).trans ((E.mono (by simp)).trans (hb.mono (by simp;omega)));exact Q.trans (A.below (by omega) (fun j D=>by omega))
theorem oV(w:wv)(B g:Nat)(v:AQ)(d:Sp)(k:Nat)(h:Spl w B g v d)(a8:d.op=U k):Calls AW 205 #[mE (U ⟨g,0,I⟩),O .u8 0] w fun e w'=>∃v' a u,e=qz (.agg #[O R a,u])∧Nxt w w' B g v v' d 0∧uZ w' w.1.size v' (d.told 0) a u:=by
  obtain⟨p,cap,b5,-,-⟩:=h.held.at;subst b5;obtain⟨D,ah⟩:∃D,D=w.alloc (qj #[O R 0,Y I 0 0] 240):=⟨_,rfl⟩;have hb:AX w.1.size w D:=by rw[ah];exact gQy
  have bv:D.1[w.1.size]?=U (qj #[O R 0,Y I 0 0] 240):=by rw[ah];exact dh w
  have Q:=h.on hb;have bp:=h.lt;have ck:g≠w.1.size:=by omega
  have bb:=gQq Q;have bN:=gQq hb;have c0:D.cell? ⟨g,0,I⟩=U (O R d.n):=bV Q.lies 0;have c1:D.cell? ⟨g,1,I⟩=U (O R k):=by have:=bV Q.lies 1;rw[a8] at this;exact this
  have c2:D.cell? ⟨g,2,I⟩=U (Y p d.held.length cap):=bV Q.lies 2;have b0:=gQq bv;obtain⟨S,a4⟩:∃S,S=D.alloc (qj #[O R 0,Y I 0 0] 240):=⟨_,rfl⟩;have aj:AX D.1.size D S:=by rw[a4];exact gQy
  have a3:=Q.on aj;have bj:S.cell? ⟨g,1,I⟩=U (O R k):=by have:=bV a3.lies 1;rw[a8] at this;exact this
  have bk:S.cell? ⟨g,2,I⟩=U (Y p d.held.length cap):=bV a3.lies 2;have ak:Hid (∀W,AX D.1.size D W->Calls AW 215 #[Y p d.held.length cap] W fun e w'=>∃q cap,e=qz (Y q d.held.length cap)∧Has w' W.1.size (Y q d.held.length cap) d.held∧AX W.1.size W w'):=by
    intro W b4;obtain⟨cp,cc,a6,b3,-⟩:=Q.held.at;injection a6 with e1;subst e1;exact uL p cap d.held (by have:=d.held_le;omega) W (b3.on b4)
  have cn:¬w.1.size+1=g:=by omega
  have co:¬w.1.size=g:=by omega
  have bc:Hid (S.1[w.1.size+1]?=U (qj #[O R 0,Y I 0 0] 240)):=by
    show _=_;rw[a4];have:=dh D;rw[ah] at this ⊢;simpa using this
  have bX:=gQq (fun j (a7:(Y p d.held.length cap).ownBlock=U j)=>(h.held.lt j a7).2);clear h hb Q bv a3;subst a4;subst ah;go_enter func205,ntmps205;go_wp2_with fail
  go_region_held3 (fun w'=>w'.cell? ⟨g,1,I⟩=U (O R k)∧w'.cell? ⟨g,2,I⟩=U (Y p d.held.length cap)) (first | go_keep | exact⟨by assumption,by assumption⟩ | (refine⟨?_,?_⟩ <;> first | assumption | (simp;assumption)))
    (first
     | (go_at_call 215
        refine(ak.out _ (by first | exact gQz | exact gQz.drew)).mono ?_;rintro e w1 ⟨q,M,rfl,K,J⟩;have be:w1.cell? ⟨g,1,I⟩=U (O R k):=(by rw[J.cell (p:=⟨g,1,I⟩) (by simp;omega)];exact c1);have bi:w1.cell? ⟨g,2,I⟩=U (Y p d.held.length cap):=(by rw[J.cell (p:=⟨g,2,I⟩) (by simp;omega)];exact c2);have cj:¬w1.1.size=g:=(by have:=J.size;simp at this;omega);have a0:=gQq K;have E:=gQq J;clear K J)
     | (go_at_call 215
        refine(ak.out _ (by first | exact aj | exact aj.drew)).mono ?_;rintro e w1 ⟨q,M,rfl,K,J⟩;have be:w1.cell? ⟨g,1,I⟩=U (O R k):=(by rw[J.cell (p:=⟨g,1,I⟩) (by simp;omega)];exact bj);have bi:w1.cell? ⟨g,2,I⟩=U (Y p d.held.length cap):=(by rw[J.cell (p:=⟨g,2,I⟩) (by simp;omega)];exact bk);have X:w1.1[w.1.size+1]?=U (qj #[O R 0,Y I 0 0] 240):=(J.block (w.1.size+1) (by simp)).trans bc.out;have b6:w1.cell? ⟨w.1.size+1,0,I⟩=U (O R 0):=(by simp[World.cell?,X]);have b7:w1.cell? ⟨w.1.size+1,1,I⟩=U (Y I 0 0):=(by simp[World.cell?,X]);have b8:w1.frozen? ⟨w.1.size+1,0,I⟩=false:=(by simp[World.frozen?,X]);have b9:w1.frozen? ⟨w.1.size+1,1,I⟩=false:=(by simp[World.frozen?,X]);have cb:=gQq X;clear X;have a0:=gQq K;have E:=gQq J;clear K J))
  case' refine_2.refine_3.refine_3.refine_3.refine_3.refine_3.refine_3.refine_3.refine_3.refine_1.refine_2.refine_3.refine_1.refine_2.refine_1.refine_2=>
    have A:=gQq (tJ (k:=k) rfl bb.out a0.out rfl ⟨E.out.os,E.out.tape,E.out.output,E.out.size,E.out.block⟩);generalize w1.alloc (qj #[O R k,Y q d.held.length M] 240)=a2 at A ⊢;generalize w1.1.size=ab at A ⊢
  case' refine_2.refine_3.refine_3.refine_3.refine_3.refine_3.refine_3.refine_3.refine_3.refine_2.refine_1.refine_2.refine_1.refine_2.refine_3.refine_1.refine_2=>
    have A:=gQq (tI (k:=k) rfl bb.out bp a0.out rfl ⟨E.out.os,E.out.tape,E.out.output,E.out.size,E.out.block⟩);unfold set2 at A;generalize (w1.setCell ⟨w.1.size+1,0,I⟩ (O R k)).setCell ⟨w.1.size+1,1,I⟩ (Y q d.held.length M)=a2 at A ⊢;generalize w.1.size+1=ab at A ⊢
  all_goals
    clear c0 c1 c2 bj bk be bi bc ak b0 bN aj;have b1:a2.cell? ⟨g,0,I⟩=U (O R d.n):=bV A.out.spl.lies 0;have aw:=gQq (i7 g d.n d.held.length (opI d.op) p cap (cK g d.op) a2 (U d.n) A.out.spl.lies);simp only[opI] at aw;go_wp2_with fail;refine aw.out.mono ?_;rintro e L ⟨rfl,bn,Z⟩;have a9:L.1[ab]?=U (qj #[O R k,Y q d.held.length M] 240):=by
      rw[Z.block _ (dc A.out.var) (by have:=A.out.far;omega)];exact A.out.var
    have V:L.1[w.1.size]?=U (qj #[O R 0,Y I 0 0] 240):=by
      rw[Z.block _ (dc A.out.res) (by omega)];exact A.out.res
    have z0:L.cell? ⟨ab,0,I⟩=U (O R k):=(by simp[World.cell?,a9]);have z1:L.cell? ⟨ab,1,I⟩=U (Y q d.held.length M):=(by simp[World.cell?,a9]);have b6:L.cell? ⟨w.1.size,0,I⟩=U (O R 0):=(by simp[World.cell?,V]);have b7:L.cell? ⟨w.1.size,1,I⟩=U (Y I 0 0):=(by simp[World.cell?,V]);have b8:L.frozen? ⟨w.1.size,0,I⟩=false:=(by simp[World.frozen?,V]);have b9:L.frozen? ⟨w.1.size,1,I⟩=false:=(by simp[World.frozen?,V]);have bT:=gQq (fR (c:=0) A.out.spl A.out.low bn Z (Sp.fence_op d) (Sp.fence_held d));have bO:=gQq (A.out.has.aside Z (fun j a7 a5=>bA A.out.has A.out.spl.lies (by decide) (by rw[a7,a5])));have a1:=gQq V;clear a9 V bn Z aw b1 A;go_wp2;refine bodyPost_ret (v:=.agg #[O R k,Y q d.held.length M]) (results_cell_row rfl _ _ w.1.size _ _ _ _ rfl (dE a1.out _ _) underlying240 rfl (by kernel_rfl)) rfl ?_;refine⟨_,_,_,rfl,iV bT.out a1.out gQx bp _ _,?_⟩;rw[Sp.told_some a8];by_cases K:d.held=[]
    · rw[AK K];exact qv ⟨rfl,q,M,by rw[K];rfl⟩
    · rw[AJ K];rcases bO.out.form with ⟨_,b2⟩ | ⟨bl,c2,a6,bq⟩
      · exact absurd b2 K
      · injection a6 with e1 _ e2;subst e1 e2;refine .inr ⟨k,d.held,bl,M,rfl,K,rfl,rfl,qL bq a1.out _ _,fun a5=>?_⟩;have cd:=bq.base.1;have ci:=bX.out bl (by rw[<-a5];cases p <;> rfl);omega
theorem rP(w:wv)(B g:Nat)(v:AQ)(d:Sp)(k:Nat)(c:UInt8)(h:Spl w B g v d)(a1:d.op=U k)(D:c≠0)(Q:d.held.length=2200):Calls AW 205 #[mE (U ⟨g,0,I⟩),O .u8 (c.toNat:Int)] w fun e w'=>∃v' a u,e=qz (.agg #[O R a,u])∧Nxt w w' B g v v' d c∧uZ w' w.1.size v' (d.told c) a u:=by
 obtain⟨p,cap,a3,-,-⟩:=h.held.at;subst a3;have aw:Hid (d.told c=[]):=Sp.told_else D;have S:Hid ((d.step c).op=I):=Sp.step_op_full a1 D Q;have a4:((c.toNat:Int)==0)=false:=by
  rw[AM];intro a5;exact D (UInt8.toNat_inj.1 (by simp;omega))
 rw[Q] at h ⊢;obtain⟨A,L⟩:∃A,A=w.alloc (qj #[O R 0,Y I 0 0] 240):=⟨_,rfl⟩;have hb:AX w.1.size w A:=by rw[L];exact gQy
 have ab:A.1[w.1.size]?=U (qj #[O R 0,Y I 0 0] 240):=by rw[L];exact dh w
 have J:=h.on hb;have a2:=h.lt;have a0:g≠w.1.size:=by omega
 have ak:=gQq J;have ah:=gQq hb;have c2:A.cell? ⟨g,2,I⟩=U (Y p 2200 cap):=bV J.lies 2;have K:=gQq (i7 g d.n 2200 (opI d.op) p cap (cK g d.op) A I J.lies);simp only[opI] at K;have V:=gQq ab;clear h hb J ab D Q;subst L;go_enter func205,ntmps205;go_wp2_with fail;refine K.out.mono ?_;rintro e w1 ⟨rfl,Z,M⟩;have E:w1.1[w.1.size]?=U (qj #[O R 0,Y I 0 0] 240):=by rw[M.block _ (dc V.out) (fun D=>a0 D.symm)];exact V.out
 have X:=gQq E;have aj:=gQq (fR (c:=c) ak.out ah.out Z M S.out (Sp.held_none S.out));have a6:w1.cell? ⟨w.1.size,0,I⟩=U (O R 0):=by simp[World.cell?,E]
 have a7:w1.cell? ⟨w.1.size,1,I⟩=U (Y I 0 0):=by simp[World.cell?,E]
 have a8:w1.frozen? ⟨w.1.size,0,I⟩=false:=by simp[World.frozen?,E]
 have a9:w1.frozen? ⟨w.1.size,1,I⟩=false:=by simp[World.frozen?,E]
 clear E Z M K;go_wp2;refine bodyPost_ret (v:=.agg #[O R 0,Y I 0 0]) (results_cell_row rfl _ _ w.1.size _ _ _ _ rfl (dE X.out _ _) underlying240 rfl (by kernel_rfl)) rfl ?_;exact⟨_,_,_,rfl,iV aj.out X.out gQx a2 _ _,qv ⟨aw.out,_,_,rfl⟩⟩
theorem tH{E:wv}{m cap:Nat}{p:OA}{D:Nat}{A:L8}{d:Sp}{c:UInt8}(hb:AX w.1.size w E)(K:W.1[g]?=U (qj (bM d.n (opI d.op) (Y p m cap) (cK g d.op)) 294))(M:Has W B (Y q A.length D) A)(X:Aside (fun k=>(Y p m cap).ownBlock=U k) E W)(aj:∀k,(Y q A.length D).ownBlock=U k->(Y p m cap).ownBlock=U k∨E.1.size<=k)(ak:A=d.held++[c])(ah:d.op=U k)(S:(d.step c).op=U k)(V:(d.step c).held=d.held++[c]):
  Nxt w (W.setCell ⟨g,2,I⟩ (Y q A.length D)) B g (Y p m cap) (Y q A.length D) d c:=by
 have aw:=hb.size;refine⟨?_,?_,?_,fun i Z=>?_⟩
 ·rw[S];rw[ah] at K;exact ji K 2 _ rfl
 ·rw[V,<-ak];exact M.aside ((Aside.refl (·=g) W).setCell (p:=⟨g,2,I⟩) (qv rfl) _) (fun j ab J=>bA M K (by decide) (by rw[ab,J]))
 ·have Q:Aside (fun i=>i=g∨(Y p m cap).ownBlock=U i) w W:=(af hb _).trans X (fun i _ J=>.inr J);exact Q.setCell (p:=⟨g,2,I⟩) (qv (qv rfl)) _
 ·rcases aj i Z with L | L
  ·exact qv L
  ·exact .inr (by omega)
theorem rO(w:wv)(B g:Nat)(v:AQ)(d:Sp)(k:Nat)(c:UInt8)(h:Spl w B g v d)(aj:d.op=U k)(D:c≠0)(ab:d.held.length≠2200):Calls AW 205 #[mE (U ⟨g,0,I⟩),O .u8 (c.toNat:Int)] w fun e w'=>∃v' a u,e=qz (.agg #[O R a,u])∧Nxt w w' B g v v' d c∧uZ w' w.1.size v' (d.told c) a u:=by
  obtain⟨p,cap,bq,-,-⟩:=h.held.at;subst bq;have be:Hid (d.told c=[]):=Sp.told_else D;have V:=gQq (Sp.step_op_some aj D ab);have bT:((c.toNat:Int)==0)=false:=by
    rw[AM];intro b1;exact D (UInt8.toNat_inj.1 (by simp;omega))
  have bX:((d.held.length:Int)==2200)=false:=by
    rw[AM];omega
  have b2:=d.held_le;obtain⟨A,L⟩:∃A,A=w.alloc (qj #[O R 0,Y I 0 0] 240):=⟨_,rfl⟩;have hb:AX w.1.size w A:=by rw[L];exact gQy
  have aw:A.1[w.1.size]?=U (qj #[O R 0,Y I 0 0] 240):=by rw[L];exact dh w
  have K:=h.on hb;have bp:=h.lt;have bl:g≠w.1.size:=by omega
  have bc:=gQq K;have a4:=gQq hb;have c2:A.cell? ⟨g,2,I⟩=U (Y p d.held.length cap):=bV K.lies 2;have Q:AX A.1.size A (A.alloc (qj #[O .u8 (c.toNat:Int)] 5)):=gQy;have J:=gQq (K.on Q);have a2:Hid (At (A.alloc (qj #[O .u8 (c.toNat:Int)] 5)) (U ⟨w.1.size+1,0,I⟩) [c]):=by
    have e:A.1.size=w.1.size+1:=(by rw[L];simp);have:=(Own.at (w:=A.alloc (qj #[O .u8 (c.toNat:Int)] 5)) (b:=A.1.size) (l:=[c]) ⟨#[],aU A _⟩);rw[e] at this;exact this
  have a5:=gQq (hb.trans (Q.mono hb.size));have X:=gQq (iZ aw Q);have a1:=h.held.lt;have bi:Hid (∀j,(Y p d.held.length cap).ownBlock=U j->j<w.1.size):=fun j bn=>(a1 j bn).2;have b0:B<=w.1.size:=by have:=h.base;omega
  clear h hb K aw D ab Q a1 bc a4;subst L;go_enter func205,ntmps205
  go_wp2_with (at_builtin;refine aC J.out.held a2.out (by simp;omega) (by simp;omega) rfl rfl rfl rfl rfl ?_;intro bN q bk W bj Z M ak;have ah:=J.out.apart;have S:W.1[g]?=_:=(M.block g J.out.lt ah).trans J.out.lies;have E:W.1[w.1.size]?=_:=(M.block w.1.size (dc X.out) (fun D=>by have:=bi.out _ D;omega)).trans X.out;have b3:W.cell? ⟨g,2,I⟩=U (Y p d.held.length cap):=bV S 2;have bO:=fQ S 2;have bv:¬g=w.1.size:=bl;have b4:W.cell? ⟨w.1.size,0,I⟩=U (O R 0):=(by simp[World.cell?,E]);have b5:W.cell? ⟨w.1.size,1,I⟩=U (Y I 0 0):=(by simp[World.cell?,E]);have b6:W.frozen? ⟨w.1.size,0,I⟩=false:=(by simp[World.frozen?,E]);have b7:W.frozen? ⟨w.1.size,1,I⟩=false:=(by simp[World.frozen?,E]);have a8:=gQq S;have bb:=gQq E;have a6:=gQq Z;have a3:=gQq M;have a9:=gQq ak;clear S E Z M ak ah)
  have a7:=gQq (tH (c:=c) a5.out a8.out a6.out a3.out a9.out bj.out aj V.out.1 V.out.2);have a0:(W.setCell ⟨g,2,I⟩ (Y q bN.length bk)).1[w.1.size]?=U (qj #[O R 0,Y I 0 0] 240):=by
    rw[Below.heap_setCell _ _ _ _ (fun D=>bv D.symm)];exact bb.out
  refine bodyPost_ret (v:=.agg #[O R 0,Y I 0 0]) (results_cell_row rfl _ _ w.1.size _ _ _ _ rfl (dE a0 _ _) underlying240 rfl (by kernel_rfl)) rfl ?_;exact⟨_,_,_,rfl,iV a7.out a0 gQx bp _ _,qv ⟨be.out,_,_,rfl⟩⟩
theorem zv(w:wv)(B g:Nat)(v:AQ)(d:Sp)(k:Nat)(c:UInt8)(h:Spl w B g v d)(D:d.op=U k):Calls AW 205 #[mE (U ⟨g,0,I⟩),O .u8 (c.toNat:Int)] w fun e w'=>∃v' a u,e=qz (.agg #[O R a,u])∧Nxt w w' B g v v' d c∧uZ w' w.1.size v' (d.told c) a u:=by
 by_cases A:c=0
 ·subst A;exact oV w B g v d k h D
 ·by_cases E:d.held.length=2200
  ·exact rP w B g v d k c h D A E
  ·exact rO w B g v d k c h D A E
end
section
open Go.RowKit
attribute [local go_sem] aY
theorem wg:(Tryz.prog.info? 240).map (fun i=>(i.zero,i.size,i.bytes))=U (U (.agg #[O R 0,Y I 0 0]),2,32):=by kernel_rfl
structure bE(w:wv)(B:Nat)(v:AQ)(bs:List Nat)(rs:List Run):Prop where
 out:∃us:List AQ,w.ownsRow B 240 2 v rs.length us∧bs.length=rs.length∧∀j (hj:j<rs.length),∃g cap,bs[j]?=U g∧us[j*2]?=U (O R rs[j].1)∧us[j*2+1]?=U (Y (U ⟨g,0,I⟩) rs[j].2.length cap)∧bo w B g cap rs[j].2
theorem qN(w:wv)(B:Nat):bE w B (Y I 0 0) [] []:=⟨[],⟨rfl,qv ⟨rfl,rfl⟩⟩,rfl,fun j A=>by simp at A⟩
section
variable {w w':wv} {B:Nat} {v:AQ} {bs:List Nat} {rs:List Run}
theorem bE.lt(h:bE w B v bs rs):∀k,v.ownBlock=U k->B<=k∧k<w.1.size:=by
 obtain⟨us,A,_⟩:=h.out;exact World.ownsRow.lt A
theorem bE.mem(h:bE w B v bs rs):∀k∈bs,B<=k∧k<w.1.size:=by
 obtain⟨us,L,M,E⟩:=h.out;intro k K;obtain⟨j,J,rfl⟩:=List.mem_iff_getElem.1 K;obtain⟨g,cap,A,_,_,D⟩:=E j (by omega);rw[List.getElem?_eq_getElem J] at A;injection A with A;rw[A];exact⟨D.base.1,D.base.2.1⟩
theorem fS{F:Nat->Prop}{cap:Nat}(h:bo w B g cap l)(E:Aside F w w')(D:¬F g):bo w' B g cap l :=
 Has.aside (v:=Y (U ⟨g,0,I⟩) l.length cap) h E (fun k A J=>by simp only[Value.ownBlock,Option.some.injEq] at A;subst A;exact D J)
theorem mW{cap:Nat}(h:bo w B g cap l)(A:B'<=B):bo w B' g cap l:=Has.low (v:=Y (U ⟨g,0,I⟩) l.length cap) h A
theorem bE.aside{F:Nat->Prop}(h:bE w B v bs rs)(J:Aside F w w')(ak:∀k,v.ownBlock=U k->¬F k)(Z:∀k∈bs,¬F k):bE w' B v bs rs:=by
 obtain⟨us,D,ah,Q⟩:=h.out;refine⟨us,⟨D.1,?_⟩,ah,fun j ab=>?_⟩
 ·rcases D.2 with S | ⟨g,cap,K,rfl,V,E,X⟩
  ·exact qv S
  ·exact .inr ⟨g,cap,K,rfl,V,by rw[J.block g (dc E) (ak g rfl)];exact E,X⟩
 ·obtain⟨g,cap,A,L,M,aj⟩:=Q j ab;exact⟨g,cap,A,L,M,fS aj J (Z g (List.mem_of_getElem? A))⟩
theorem bE.on(h:bE w B v bs rs)(hb:AX w.1.size w w'):bE w' B v bs rs:=h.aside (af hb (fun _=>False)) (fun _ _ A=>A) (fun _ _ A=>A)
theorem bE.form(h:bE w B v bs rs):∃q c,v=Y q rs.length c∧rs.length<=c:=by
 obtain⟨us,A,K⟩:=h.out;rcases A.2 with ⟨rfl,D⟩ | ⟨g,cap,J,rfl,_,_,E,_⟩
 ·exact⟨I,0,by rw[D],by omega⟩
 ·exact⟨_,_,rfl,E⟩
end
theorem bE.apart{bs:List Nat}{rs:List Run}(h:bE w B v bs rs){C:AV}{T:TypeId}(E:w.1[g]?=U (qj C T))(K:T≠240):v.ownBlock≠U g:=by
 intro D;obtain⟨us,A,-⟩:=h.out;rcases A.2 with ⟨A,_⟩ | ⟨M,cap,L,A,_,J,_⟩
 ·rw[A] at D;cases D
 ·rw[A] at D;simp only[Value.ownBlock,Option.some.injEq] at D;subst D;rw[J] at E;injection E with h4;injection h4 with _ h5;exact K h5.symm
theorem eu{cap:Nat}(h:bo w B g cap l):∃C,w.1[g]?=U (qj C 5):=by
 rcases h.2 with ⟨A,_⟩ | ⟨K,J,D,A,_,E,_⟩
 ·cases A
 ·cases A
  exact⟨D,E⟩
theorem kJ(h:Has w B v l)(A:v.ownBlock=U g):∃C,w.1[g]?=U (qj C 5):=by
 rcases h.2 with ⟨D,_⟩ | ⟨L,K,E,D,_,J,_⟩
 ·rw[D] at A;cases A
 ·rw[D] at A;simp only[Value.ownBlock,Option.some.injEq] at A;subst A;exact⟨E,J⟩
theorem bE.block{bs:List Nat}{rs:List Run}(h:bE w B v bs rs):∀k∈bs,∃C,w.1[k]?=U (qj C 5):=by
 obtain⟨us,L,M,D⟩:=h.out;intro k J;obtain⟨j,E,rfl⟩:=List.mem_iff_getElem.1 J;obtain⟨g,cap,A,_,_,K⟩:=D j (by omega);rw[List.getElem?_eq_getElem E] at A;injection A with A;rw[A];exact eu K
theorem sM{ad H:Nat}{bs:List Nat}{rs:List Run}(M:bE w B v bs rs)(k:Nat)(J:L8)(D c2:Nat)(Z:bo w B D c2 J)(a9:w.1[ad]?=U (qj #[O R k,Y (U ⟨D,0,I⟩) J.length c2] 240 (0,0)))(bv:rs.length<=1000000000)(a6:B<=w.1.size)(a7:w.1.size=H){ah:Array Oper}{rest:List Oper}{o:Oper}{a:Act}{Q:Exit->Act->wv->Prop}{y x:Operand}(bc:o.guard=I)(bk:o.op=Op.call { callee:=Callee.builtin Builtin.append,args:=#[y,x],argTypes:=#[238,238] })(bl:a.eval y=v)(bp:a.eval x=Y (U ⟨ad,0,I⟩) 1 1)(a8:∀g cap w',bE w' B (Y (U ⟨g,0,I⟩) (rs.length+1) cap) (bs++[D]) (rs++[(k,J)])->Aside (fun j=>v.ownBlock=U j) w w'->(v.ownBlock=U g∨g=H)->wpList AW ah Q rest (a.put o.dst (Y (U ⟨g,0,I⟩) (rs.length+1) cap)) w'):
  wpList AW ah Q (o::rest) a w:=by
 obtain⟨i,be,bq,bn,bb⟩:=info_parts wg;obtain⟨us,V,X,a2⟩:=M.out
 refine wpList_append_lies w bc y x 238 bk B 240 i (.agg #[O R 0,Y I 0 0]) 2 32 underlying238 be bq bn bb rfl (by decide) v rs.length us bl V ⟨ad,0,I⟩ 1 1 _ bp (by simp)
  (World.news_of_block a9) (by intro a A;simp at A;rcases A with rfl | rfl <;> rfl) (by decide) (by unfold maxLen;omega) (by omega) a6 H a7 fun g cap w' a3 a4 a5 _=>?_
 have A:=ca a4;have ab:us.length=rs.length*2:=V.1;refine a8 g cap w' ⟨us++[O R k,Y (U ⟨D,0,I⟩) J.length c2],?_,by simp[X],fun j bi=>?_⟩ A a5
 ·rw[AU,AC];simpa using a3
 ·by_cases E:j<rs.length
  ·obtain⟨a1,aj,ak,aw,a0,S⟩:=a2 j E;refine⟨a1,aj,?_,?_,?_,?_⟩
   ·rw[List.getElem?_append_left (by omega)];exact ak
   ·rw[List.getElem?_append_left (by omega),aw,List.getElem_append_left E]
   ·rw[List.getElem?_append_left (by omega),a0,List.getElem_append_left E]
   ·rw[List.getElem_append_left E];obtain⟨C,K⟩:=eu S;exact fS S A (fun L=>M.apart K (by decide) L)
  ·have bj:j=rs.length:=(by rw[AU,AC] at bi;omega);subst bj;obtain⟨C,K⟩:=eu Z;refine⟨D,c2,?_,?_,?_,?_⟩
   ·rw[List.getElem?_append_right (by omega),X];simp
   ·rw[List.getElem?_append_right (by omega),ab];simp
   ·rw[List.getElem?_append_right (by omega),ab,show rs.length*2+1-rs.length*2=1 by omega];simp
   ·simp only[List.getElem_append_right gQx,Nat.sub_self,List.getElem_cons_zero];exact fS Z A (fun L=>M.apart K (by decide) L)
structure FI(w wr:wv)(B g:Nat)(v rv v':AQ)(bs:List Nat)(d:Sp)(m:L8):Prop where
 spl:Spl wr B g v' (d.run m)
 runs:bE wr w.1.size rv bs (d.tolds m)
 aside:Aside (fun i=>i=g∨v.ownBlock=U i) w wr
 own:∀k,v'.ownBlock=U k->v.ownBlock=U k∨w.1.size<=k
 off:∀k∈bs,v'.ownBlock≠U k
section
variable {w wr w1 w2:wv} {B g:Nat} {v rv v' v2:AQ} {bs:List Nat} {d:Sp} {m:L8} {c:UInt8}
theorem FI.keeps(h:FI w wr B g v rv v' bs d m)(K:Nxt wr w1 B g v' v2 (d.run m) c)(hb:AX w1.1.size w1 w2):bE w2 w.1.size rv bs (d.tolds m)∧(∀k∈bs,v2.ownBlock≠U k):=by
 constructor
 ·refine(h.runs.aside K.aside (fun k E A=>?_) (fun k E A=>?_)).on hb
  ·rcases A with A | A
   ·subst A;exact h.runs.apart h.spl.lies (by decide) E
   ·obtain⟨C,D⟩:=kJ h.spl.held A;exact h.runs.apart D (by decide) E
  ·rcases A with A | A
   ·subst A;obtain⟨C,D⟩:=h.runs.block k E;rw[h.spl.lies] at D;injection D with D;injection D with _ D;exact absurd D (by decide)
   ·exact h.off k E A
 ·intro k E A;rcases K.own k A with J | J
  ·exact h.off k E J
  ·have:=(h.runs.mem k E).2;omega
theorem Nxt.later(A:Nxt wr w1 B g v' v2 d c)(hb:AX w1.1.size w1 w2):Nxt wr w2 B g v' v2 d c:=A.beside (F:=fun _=>False) (af hb _) (fun h=>h) (fun _ _ h=>h) (fun _ _ h=>h)
theorem rZ(h:FI w wr B g v rv v' bs d m)(L:Nxt wr w1 B g v' v2 (d.run m) c)(V:(d.run m).told c=[])(hb:AX w1.1.size w1 w2)(n:Nat)(Q:n=(d.run m).n+1):FI w (w2.setCell ⟨g,0,I⟩ (O R (n:Int))) B g v rv v2 bs d (m++[c]):=by
 subst Q;have K:=L.later hb;obtain⟨M,X⟩:=h.keeps L hb;have ab:=h.aside.size;have S:Aside (·=g) w2 (w2.setCell ⟨g,0,I⟩ (O R (((d.run m).n+1:Nat):Int))):=(Aside.refl (·=g) w2).setCell (p:=⟨g,0,I⟩) (qv rfl) _;refine⟨?_,?_,?_,?_,X⟩
 ·rw[Sp.run_snoc];exact K.spl h.spl
 ·rw[Sp.tolds_snoc,V,AH];refine M.aside S (fun k J A=>?_) (fun k J A=>?_)
  ·subst A;exact M.apart K.lies (by decide) J
  ·subst A;obtain⟨C,D⟩:=M.block k J;rw[K.lies] at D;injection D with D;injection D with _ D;exact absurd D (by decide)
 ·refine(h.aside.trans K.aside (fun i Z A=>?_)).setCell (p:=⟨g,0,I⟩) (qv (qv rfl)) _;rcases A with A | A
  ·exact qv A
  ·rcases h.own i A with E | E
   ·exact .inr E
   ·omega
 ·intro k J;rcases L.own k J with E | E
  ·exact h.own k E
  ·exact .inr (by omega)
theorem rY{ak:AQ}{Q:Nat}{aj:L8}(h:FI w wr B g v rv v' bs d m)(X:Nxt wr w1 B g v' v2 (d.run m) c)(a4:(d.run m).told c=[(k,aj)])(hb:AX w1.1.size w1 w2)(a3:v2.ownBlock≠U Q)(V:Aside (fun j=>rv.ownBlock=U j) w2 W)(S:bE W w.1.size ak (bs++[Q]) (d.tolds m++[(k,aj)]))(n:Nat)(aw:n=(d.run m).n+1):FI w (W.setCell ⟨g,0,I⟩ (O R (n:Int))) B g v ak v2 (bs++[Q]) d (m++[c]):=by
 subst aw;have K:=X.later hb;obtain⟨Z,a6⟩:=h.keeps X hb;have a7:=h.aside.size;have a2:∀j,rv.ownBlock=U j->w.1.size<=j:=fun j L=>(Z.lt j L).1;have a0:rv.ownBlock≠U g:=Z.apart K.lies (by decide);have a5:∀j,v2.ownBlock=U j->¬rv.ownBlock=U j:=fun j L=>by
  obtain⟨C,E⟩:=kJ K.held L;exact Z.apart E (by decide)
 have M:W.1[g]?=_:=(V.block g (dc K.lies) a0).trans K.lies;have ab:=K.held.aside V a5;have ah:Aside (·=g) W (W.setCell ⟨g,0,I⟩ (O R (((d.run m).n+1:Nat):Int))):=(Aside.refl (·=g) W).setCell (p:=⟨g,0,I⟩) (qv rfl) _;refine⟨?_,?_,?_,?_,?_⟩
 ·rw[Sp.run_snoc];refine⟨ji M 0 _ (by rw[Sp.step_n];rfl),ab.aside ah (fun j L A=>bA ab M (by decide) (by rw[L,A])),h.spl.base⟩
 ·rw[Sp.tolds_snoc,a4];refine S.aside ah (fun k J A=>?_) (fun k J A=>?_)
  ·subst A;exact S.apart M (by decide) J
  ·subst A;obtain⟨C,E⟩:=S.block k J;rw[M] at E;injection E with E;injection E with _ E;exact absurd E (by decide)
 ·refine((h.aside.trans K.aside (fun i a1 A=>?_)).trans V (fun i a1 A=>?_)).setCell (p:=⟨g,0,I⟩) (qv (qv rfl)) _
  ·rcases A with A | A
   ·exact qv A
   ·rcases h.own i A with D | D
    ·exact .inr D
    ·omega
  ·have:=a2 i A;omega
 ·intro k J;rcases X.own k J with D | D
  ·exact h.own k D
  ·exact .inr (by omega)
 ·intro k J;rcases List.mem_append.1 J with D | D
  ·exact a6 k D
  ·rw[List.mem_singleton.1 D];exact a3
end
theorem FI.start{d:Sp}(h:Spl w B g v d):FI w w B g v (Y I 0 0) v [] d [] :=
 ⟨h,by rw[Sp.tolds_nil];exact qN _ _,Aside.refl _ _,fun _ h=>qv h,fun _ h=>by cases h⟩
end
section
open Go.RowKit
attribute [local go_sem] aY
theorem zB(w:wv)(B g:Nat)(v:AQ)(d:Sp)(p:OA)(c:Nat)(l:L8)(h:Spl w B g v d)(bb:At w p l)(X:l≠[]->∀b o,p=U ⟨b,o,I⟩->b≠g∧v.ownBlock≠U b)(bl:d.n+l.length<=100000000):Calls AW 178 #[mE (U ⟨g,0,I⟩),Y p l.length c] w fun e w'=>∃q cap v' bs,e=qz (Y q (d.tolds l).length cap)∧FI w w' B g v (Y q (d.tolds l).length cap) v' bs d l:=by
  have a4:=gQq (FI.start h);have bN:Hid (∀wr,Aside (fun i=>i=g∨v.ownBlock=U i) w wr->At wr p l):=fun wr b8=>by
    by_cases aj:l=[]
    · exact qv aj
    · exact bb.aside b8 (fun b o hb V=>by
        rcases V with V | V
        · exact(X aj b o hb).1 V
        · exact(X aj b o hb).2 V)
  have cp:l.length<=100000000:=by omega
  have b2:=gQq bl;clear h bb X bl;go_enter func178,ntmps178;go_wp2;go_loopw [5,11] (fun ci a3 wr=>∃(i:Nat) (v':AQ) (bs:List Nat),i<=l.length∧a3=O R i∧Hid (FI w wr B g v ci v' bs d (l.take i))) (fun _ a3 _=>l.length-(intOf a3).toNat);case atStart=>exact⟨0,v,[],by omega,rfl,a4.out⟩
  case round=>
    clear a4;obtain⟨i,v',bs,co,rfl,J⟩:=hrel;obtain⟨bv,bq,b9,-⟩:=J.out.runs.form;subst b9;by_cases bj:i<l.length
    · have cs:(i:Int)<(l.length:Int):=(by omega);obtain⟨b,o,X,-,be⟩:=aO (bN.out wr J.out.aside) (by omega);subst X;have bi:=be i bj;obtain⟨x,a2⟩:∃x,x=l[i]:=⟨_,rfl⟩;rw[<-a2] at bi;have a7:Hid (l.take (i+1)=l.take i++[x]):=by
        show _=_;rw[List.take_succ_eq_append_getElem bj,a2]
      clear be a2;obtain⟨A,ab⟩:∃A,A=d.run (l.take i):=⟨_,rfl⟩;have cn:A.n<=100000000:=by
        have:=b2.out;rw[ab,Sp.run_n,AA];omega
      have M:=gQq ab;have ah:Spl wr B g v' A:=(by rw[ab];exact J.out.spl);have c3:wr.cell? ⟨g,3,I⟩=U (cK g A.op):=bV ah.lies 3;have a8:=gQq (yW wr B g v' A x ah);have a5:=gQq (fun k=>zv wr B g v' A k x ah);clear ah ab;rcases hop:A.op with _ | k
      case' none=>
        rw[hop] at c3;simp only[cK] at c3;go_wp2_with fail;refine(a8.out hop).mono ?_
      case' some=>
        rw[hop] at c3;simp only[cK] at c3;go_wp2_with fail;refine(a5.out k hop).mono ?_
      all_goals
        clear a8 a5 c3 hop bi;rintro e w1 ⟨v2,a,u,rfl,K,b7⟩;rcases b7 with ⟨Z,bp,a9,rfl⟩ | ⟨k,D,E,c2,Z,cc,rfl,rfl,bk,bn⟩
        · have L:AX w1.1.size w1 (w1.alloc (qj #[O R a,Y bp 0 a9] 240)):=gQy;have a0:=iZ K.lies L;have z0:(w1.alloc (qj #[O R a,Y bp 0 a9] 240)).cell? ⟨g,0,I⟩=U (O R A.n):=bV a0 0;have cj:=fQ a0 0;have Q:=gQq K;have S:=gQq Z;clear K Z a0;go_wp2;go_roundw;case rel=>
            refine⟨i+1,v2,bs,by omega,by go_num,?_⟩;rw[M.out] at Q S;show FI w _ _ _ _ _ _ _ _ _;rw[a7.out];have:=rZ J.out Q.out S.out L (A.n+1) (by rw[M.out]);rw[show(((A.n+1:Nat):Int))=(A.n:Int)+1 by omega] at this;exact this
          case measure=>simp[intOf];omega
        · have cq:0<D.length:=List.length_pos_iff.2 cc;have cr:(0:Int)<(D.length:Int):=(by omega);have L:AX w1.1.size w1 ((w1.alloc (qj #[O R (k:Int),Y (U ⟨E,0,I⟩) D.length c2] 240)).alloc (qj #[O R (k:Int),Y (U ⟨E,0,I⟩) D.length c2] 240)):=gQy.alloc (by simp) _;have Q:=gQq K;have S:=gQq Z;have ak:=(J.out.keeps (by rw[<-M.out];exact K) L).1;have cd:=J.out.aside.size;have ct:=K.aside.size;have b5:=gQq ak;have b1:=gQq (mW (B':=w.1.size) (Has.on (v:=Y (U ⟨E,0,I⟩) D.length c2) bk L) cd);have bO:Hid (((w1.alloc (qj #[O R (k:Int),Y (U ⟨E,0,I⟩) D.length c2] 240)).alloc (qj #[O R (k:Int),Y (U ⟨E,0,I⟩) D.length c2] 240)).1[w1.1.size+1]?=U (qj #[O R (k:Int),Y (U ⟨E,0,I⟩) D.length c2] 240)):=by
            show _=_;have:=aU (w1.alloc (qj #[O R (k:Int),Y (U ⟨E,0,I⟩) D.length c2] 240)) (qj #[O R (k:Int),Y (U ⟨E,0,I⟩) D.length c2] 240);simpa using this
          have b0:Hid ((d.tolds (l.take i)).length<=1000000000):=by
            show _<=_;have:=Sp.tolds_len d (l.take i);rw[AA] at this;omega
          have b3:=gQq bn;have a6:=gQq (iZ K.lies L);have bT:=gQq (ak.apart (iZ K.lies L) (by decide));clear K Z ak bk bn
          go_wp2_with (at_builtin;refine sM b5.out k D E c2 b1.out bO.out b0.out (by simp;omega) rfl rfl rfl rfl rfl ?_;intro ck c3 W bc aw _;have a1:W.1[g]?=_:=(aw.block g (dc a6.out) bT.out).trans a6.out;have z0:W.cell? ⟨g,0,I⟩=U (O R A.n):=bV a1 0;have cj:=fQ a1 0;have b4:=gQq bc;have b6:=gQq aw;clear bc aw a1)
          go_roundw;case rel=>
            refine⟨i+1,v2,bs++[E],by omega,by go_num,?_⟩;rw[M.out] at Q S;show FI w _ _ _ _ _ _ _ _ _;rw[a7.out];have:=rY J.out Q.out S.out L b3.out b6.out b4.out (A.n+1) (by rw[M.out]);rw[show(((A.n+1:Nat):Int))=(A.n:Int)+1 by omega] at this;exact this
          case measure=>simp[intOf];omega
    · have cb:i=l.length:=(by omega);subst cb;have bX:Hid (FI w wr B g v (Y bv (d.tolds l).length bq) v' bs d l):=by
        have:=J.out;rw[List.take_length] at this;exact this
      rw[List.take_length];clear J;go_wp2;go_ret;exact⟨bv,bq,v',bs,rfl,bX.out⟩
end
section
open Go.RowKit
attribute [local go_sem] aY
theorem zS(w:wv):Calls AW 177 #[] w fun e w'=>∃g v,e=qz (mE (U ⟨g,0,I⟩))∧Spl w' w.1.size g v Sp.start∧AX w.1.size w w':=by
 have D:(w.alloc (qj (bM 0 0 (Y I 0 0) .nilFunc) 294)).1[w.1.size]?=U (qj (bM 0 0 (Y I 0 0) .nilFunc) 294):=aU w _;have A:=gQq (i7 w.1.size 0 0 0 I 0 .nilFunc _ I D);simp only[opI] at A;go_enter func177,ntmps177;go_wp2_with fail;refine A.out.mono ?_;rintro e w1 ⟨rfl,J,E⟩;go_wp2;go_ret;refine⟨w.1.size,_,rfl,⟨J,bF _ _,gQx⟩,?_⟩;exact((Below.refl w.1.size w).alloc gQx _).trans (E.below (by simp) (fun k L K=>by omega))
theorem bE.low{bs:List Nat}{rs:List Run}(h:bE w B v bs rs)(S:B'<=B):bE w B' v bs rs:=by
 obtain⟨us,A,X,L⟩:=h.out;refine⟨us,⟨A.1,?_⟩,X,fun j V=>?_⟩
 ·rcases A.2 with M | ⟨g,cap,D,rfl,ab,Q⟩
  ·exact qv M
  ·exact .inr ⟨g,cap,D,rfl,by omega,Q⟩
 ·obtain⟨g,cap,E,J,K,Z⟩:=L j V;exact⟨g,cap,E,J,K,mW Z S⟩
theorem yT(w:wv)(p:OA)(c:Nat)(l:L8)(Z:At w p l)(a4:l.length<=100000000):Calls AW 153 #[Y p l.length c] w fun e w'=>∃q cap bs,e=qz (Y q (Sp.of l).out.length cap)∧bE w' w.1.size (Y q (Sp.of l).out.length cap) bs (Sp.of l).out∧AX w.1.size w w':=by
 have V:=gQq (zS w);have J:=gQq Z;clear Z;go_enter func153,ntmps153;go_wp2_with fail;refine V.out.mono ?_;rintro e w1 ⟨g,v,rfl,D,hb⟩;have Q:=gQq (zB w1 w.1.size g v Sp.start p c l D (J.out.on hb) (fun aw b o E=>by
  rcases J.out with aj | ⟨a0,a5,ak,a1,a2⟩
  ·exact absurd aj aw
  ·rw[ak] at E;injection E with E;injection E with e1 _;subst e1
   exact⟨by have:=D.base;omega,fun A=>by have:=(D.held.lt _ A).1;omega⟩) (by simp[Sp.start];omega))
 have L:=gQq hb;have X:=gQq D;have M:Hid (Sp.start.tolds l=(Sp.of l).out):=by
  show _=_;have:=Sp.tolds_out Sp.start l;simpa[Sp.start,Sp.of] using this.symm
 clear D hb V J;go_wp2_with fail;refine Q.out.mono ?_;rintro e w2 ⟨q,cap,v',bs,rfl,K⟩;rw[M.out] at K ⊢;have S:=gQq K;clear K Q;go_wp2;go_ret;have ab:=S.out.runs;rw[M.out] at ab;have ah:=L.out.size;refine⟨q,cap,bs,rfl,ab.low ah,L.out.trans (S.out.aside.below ah (fun k a3 A=>?_))⟩;rcases A with A | A
 ·have:=X.out.base;omega
 ·have:=(X.out.held.lt _ A).1;omega
end
end Go.Proofs.YtngmnfdaedlodaaGreatDoor
