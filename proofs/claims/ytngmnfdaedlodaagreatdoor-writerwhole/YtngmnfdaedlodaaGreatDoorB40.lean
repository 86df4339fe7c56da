import Derived.Test.YtngmnfdaedlodaaGreatDoorC5
set_option maxHeartbeats 4000000
namespace Go.Proofs.YtngmnfdaedlodaaGreatDoor
open Go.Proofs.Tryz
open Option renaming none->I,some->U
open Go.Value renaming slice->Y,int->O,pointer->qq
open Go.IntKind renaming i64->R
open Go.Obj renaming cells->wx
open Or renaming inl->AZ
open Go renaming Value->AA,World->AU
open Go.RowKit renaming Below->AC
open Go.Proofs.Tryz renaming prog->AE
open Go.Ending renaming returned->wv
variable{B B' g k n:Nat}{W w w1:AU}{l:L8}{u v v' x y:AA}{q:OA}{T:TypeId}{o:Obj}
section
open Go.RowKit
def bP(n:Nat)(k:Int)(v f:AA):AV:=#[O R n,O R k,v,f]
def opI:Option Nat->Int
 |some k=>k
 |none=>-1
def cK(g:Nat):Option Nat->AA
 |some _=>.func (.func 205) #[qq (U ⟨g,0,I⟩)] #[]
 |none=>.func (.func 206) #[qq (U ⟨g,0,I⟩)] #[]
theorem aZ(P:Program)(w:AU)(a:Addr)(m:Mode)(fn:Fn)(first captured:AV):(store a (.func fn first captured) m).run P w=stored P w a (.func fn first captured) m:=run_store P w a _ m rfl
attribute [local go_sem] aZ
theorem bW{k:Int}{f:AA}(h:w.1[g]?=U (wx (bP n k v f) 294))(i:Nat):w.cell? ⟨g,i,I⟩=(bP n k v f)[i]?:=by
 unfold World.cell?;rw[h];rfl
theorem fT{k:Int}{f:AA}(h:w.1[g]?=U (wx (bP n k v f) 294))(i:Nat):w.frozen? ⟨g,i,I⟩=false:=by
 simp[World.frozen?,h]
theorem jm{n':Nat}{k k':Int}{f f':AA}(h:w.1[g]?=U (wx (bP n k v f) 294))(i:Nat)(u:AA)(A:bP n' k' v' f'=(bP n k v f).setIfInBounds i u):(w.setCell ⟨g,i,I⟩ u).1[g]?=U (wx (bP n' k' v' f') 294):=by
 simp only[World.setCell,Array.getElem?_modify,h,if_true,Option.map_some];rw[AF (by simp),A]
theorem jc(g n m:Nat)(k:Int)(q:OA)(cap:Nat)(f:AA)(w:AU)(op:Option Nat)(h:w.1[g]?=U (wx (bP n k (Y q m cap) f) 294)):Calls AE 198 #[qq (U ⟨g,0,I⟩),O R (opI op)] w fun e w'=>e=wv (.tuple #[])∧w'.1[g]?=U (wx (bP n (opI op) (Y q 0 cap) (cK g op)) 294)∧Aside (·=g) w w':=by
 have c2:w.cell? ⟨g,2,I⟩=U (Y q m cap):=bW h 2;have f1:=fT h 1;have X:=fT h 2;have Z:=fT h 3;have c1:w.cell? ⟨g,1,I⟩=U (O R k):=bW h 1;have c3:w.cell? ⟨g,3,I⟩=U f:=bW h 3;have K:(w.setCell ⟨g,1,I⟩ (O R (opI op))).1[g]?=U (wx (bP n (opI op) (Y q m cap) f) 294):=jm h 1 _ rfl;have L:((w.setCell ⟨g,1,I⟩ (O R (opI op))).setCell ⟨g,2,I⟩ (Y q 0 cap)).1[g]?=U (wx (bP n (opI op) (Y q 0 cap) f) 294):=jm K 2 _ rfl;have M:(((w.setCell ⟨g,1,I⟩ (O R (opI op))).setCell ⟨g,2,I⟩ (Y q 0 cap)).setCell ⟨g,3,I⟩ (cK g (U 0))).drew.1[g]?=U (wx (bP n (opI op) (Y q 0 cap) (cK g (U 0))) 294):=jm L 3 _ rfl;have Q:Aside (·=g) w (((w.setCell ⟨g,1,I⟩ (O R (opI op))).setCell ⟨g,2,I⟩ (Y q 0 cap)).setCell ⟨g,3,I⟩ (cK g (U 0))).drew:=((((Aside.refl (·=g) w).setCell (p:=⟨g,1,I⟩) (AZ rfl) _).setCell (p:=⟨g,2,I⟩) (AZ rfl) _).setCell (p:=⟨g,3,I⟩) (AZ rfl) _).drew;have A:=gQq M;have D:=gQq Q;clear h K L M Q;cases op with
 |some k'=>
  have V:(((k':Nat):Int)==-1)=false:=by rw[BQ];omega
  simp only[opI,cK] at A D ⊢;cases q with
  |none=>
   go_enter func198,ntmps198;go_wp2_with fail;go_region_law (fail)
   all_goals
    go_wp2;go_end0;exact⟨rfl,A.out,D.out⟩
  |some a=>
   go_enter func198,ntmps198;go_wp2_with fail;go_region_law (fail)
   all_goals
    go_wp2;go_end0;exact⟨rfl,A.out,D.out⟩
 |none=>
  simp only[opI,cK] at A D ⊢;have J:=gQq (jm (n':=n) (k':=-1) (v':=Y q 0 cap) (f':=cK g I) A.out 3 (cK g I) rfl);have E:=gQq (D.out.setCell (p:=⟨g,3,I⟩) (AZ rfl) (cK g I));have ab:=fT A.out 3;have S:=bW A.out 3;simp only[cK] at J E;cases q with
  |none=>
   go_enter func198,ntmps198;go_wp2_with fail;go_region_law (fail)
   all_goals
    go_wp2;go_end0;exact⟨rfl,J.out,E.out⟩
  |some a=>
   go_enter func198,ntmps198;go_wp2_with fail;go_region_law (fail)
   all_goals
    go_wp2;go_end0;exact⟨rfl,J.out,E.out⟩
end
section
open Go.RowKit
attribute [local go_sem] aZ
structure Spl(w:AU)(B g:Nat)(v:AA)(d:Sp):Prop where
 lies:w.1[g]?=U (wx (bP d.n (opI d.op) v (cK g d.op)) 294)
 held:Has w B v d.held
 base:B<=g
theorem bB(h:Has w B v l){C:AV}{T:TypeId}(E:w.1[g]?=U (wx C T))(K:T≠5):v.ownBlock≠U g:=by
 intro A;rcases h.2 with ⟨D,_⟩ | ⟨M,cap,L,D,_,J,_⟩
 ·rw[D] at A;cases A
 ·rw[D] at A;simp only[Value.ownBlock,Option.some.injEq] at A;subst A;rw[J] at E;injection E with h4;injection h4 with _ h5;exact K h5.symm
def vq(w':AU)(Z:Nat)(v':AA)(rs:List Run)(a:Int)(u:AA):Prop :=
 (rs=[]∧∃p c,u=Y p 0 c)∨∃k l g cap,rs=[(k,l)]∧l≠[]∧a=(k:Int)∧u=Y (U ⟨g,0,I⟩) l.length cap∧br w' Z g cap l∧v'.ownBlock≠U g
structure Nxt(w w':AU)(B g:Nat)(v v':AA)(d:Sp)(c:UInt8):Prop where
 lies:w'.1[g]?=U (wx (bP d.n (opI (d.step c).op) v' (cK g (d.step c).op)) 294)
 held:Has w' B v' (d.step c).held
 aside:Aside (fun i=>i=g∨v.ownBlock=U i) w w'
 own:∀i,v'.ownBlock=U i->v.ownBlock=U i∨w.1.size<=i
theorem oP(n c:Nat)(w:AU):(binOp .eql 40 (Y I n c) (Y I 0 0)).run AE w=.ok (.bool true) w:=by kernel_rfl
theorem oO(a:Addr)(n c:Nat)(w:AU):(binOp .eql 40 (Y (U a) n c) (Y I 0 0)).run AE w=.ok (.bool false) w:=by kernel_rfl
theorem uS(p:OA)(c:Nat)(l:L8)(ah:l.length<=1000000)(w:AU)(h:At w p l):Calls AE 215 #[Y p l.length c] w fun e w'=>∃q cap,e=wv (Y q l.length cap)∧Has w' w.1.size (Y q l.length cap) l∧AC w.1.size w w':=by
  cases p with
  |none=>
    have S:l=[]:=by
      rcases h with rfl | ⟨b,o,X,_,_⟩
      · rfl
      · cases X
    subst S;have Z:=oP 0 c w;go_enter func215,ntmps215;go_wp2;go_ret;exact⟨I,0,rfl,bG _ _,gQz⟩
  |some a=>
    have K:=gQq (h.on ((Below.refl _ w).alloc gQx (wx #[] 5)));have A:=gQq (nc w).has;have L:Hid (AC w.1.size w (w.alloc (wx #[] 5))):=gQy;have Z:=oO a l.length c w;clear h;go_enter func215,ntmps215
    go_wp2_with (first|(at_builtin;refine aD (xs:=[]) A.out K.out (by simp;omega) (by simp) rfl rfl rfl rfl rfl ?_;intro ab q cap W Q J E V;have M:=gQq (aC E A.out (by simp));have D:=gQq J;clear E V J)|fail)
    go_ret;have e:ab=l:=Q.out;rw[e] at D;rw[e];exact⟨q,cap,rfl,D.out,L.out.trans M.out⟩
theorem ja{w':AU}{C:AV}(h:w.1[g]?=U (wx C T))(hb:AC w.1.size w w'):w'.1[g]?=U (wx C T):=by
 rw[hb.block g (Array.getElem?_eq_some_iff.1 h).1];exact h
theorem dd(h:w.1[g]?=U o):g<w.1.size:=(Array.getElem?_eq_some_iff.1 h).1
def set2(w:AU)(g:Nat)(a b:AA):World:=(w.setCell ⟨g,0,I⟩ a).setCell ⟨g,1,I⟩ b
theorem dG(h:w.1[g]?=U (wx #[x,y] T))(a b:AA):(set2 w g a b).1[g]?=U (wx #[a,b] T):=by
 have A:(w.setCell ⟨g,0,I⟩ a).1[g]?=U (wx #[a,y] T):=by
  simp only[World.setCell,Array.getElem?_modify,h,if_true,Option.map_some];rfl
 unfold set2;simp only[World.setCell,Array.getElem?_modify] at A ⊢;simp only[A,if_true,Option.map_some];rfl
theorem fS(w:AU)(g:Nat)(a b:AA):Aside (fun j=>j=g) w (set2 w g a b):=((Aside.refl (fun j=>j=g) w).setCell (p:=⟨g,0,I⟩) (AZ rfl) _).setCell (p:=⟨g,1,I⟩) (AZ rfl) _
theorem di(w:AU):(w.alloc (wx #[O R 0,Y I 0 0] 240)).1[w.1.size]?=U (wx #[O R 0,Y I 0 0] 240):=aV w _
section
variable {w w':AU} {B g:Nat} {v v':AA} {d:Sp} {c:UInt8}
theorem Spl.lt(h:Spl w B g v d):g<w.1.size:=dd h.lies
theorem Spl.apart(h:Spl w B g v d):v.ownBlock≠U g:=bB h.held h.lies (by decide)
theorem Spl.aside{F:Nat->Prop}(h:Spl w B g v d)(A:Aside F w w')(D:¬F g)(E:∀k,v.ownBlock=U k->¬F k):Spl w' B g v d :=
 ⟨by rw[A.block g h.lt D];exact h.lies,h.held.aside A E,h.base⟩
theorem Spl.on(h:Spl w B g v d)(hb:AC w.1.size w w'):Spl w' B g v d:=h.aside (af hb (fun _=>False)) (fun h=>h) (fun _ _ h=>h)
theorem Nxt.beside{F:Nat->Prop}(h:Nxt w w' B g v v' d c)(A:Aside F w' w1)(J:¬F g)(L:∀k,v'.ownBlock=U k->¬F k)(D:∀k,k<w.1.size->¬F k):Nxt w w1 B g v v' d c :=
 ⟨by rw[A.block g (dd h.lies) J];exact h.lies,h.held.aside A L,h.aside.trans A (fun i K E=>absurd E (D i K)),h.own⟩
theorem Nxt.spl(h:Nxt w w' B g v v' d c)(E:Spl w B g v d):Spl (w'.setCell ⟨g,0,I⟩ (O R ((d.n+1:Nat):Int))) B g v' (d.step c):=by
 refine⟨?_,?_,E.base⟩
 ·refine jm h.lies 0 _ ?_;rw[Sp.step_n];rfl
 ·exact h.held.aside ((Aside.refl (·=g) w').setCell (p:=⟨g,0,I⟩) (AZ rfl) _) (fun j D A=>bB h.held h.lies (by decide) (by rw[D,A]))
end
theorem Has.cut0{m cap:Nat}(h:Has w B (Y q m cap) l):Has w B (Y q 0 cap) []:=by
 refine⟨rfl,?_⟩;rcases h.2 with ⟨A,S⟩ | ⟨E,Q,D,A,J,K,V,L,M,X⟩
 ·cases A
  exact AZ ⟨rfl,rfl⟩
 ·cases A
  exact .inr ⟨E,cap,D,rfl,J,K,by simp,L,M,by simp[cellsOf]⟩
theorem fU{w2:AU}{m cap:Nat}{d:Sp}{c:UInt8}{op:Option Nat}(h:Spl w1 B g (Y q m cap) d)(E:AC w.1.size w w1)(J:w2.1[g]?=U (wx (bP d.n (opI op) (Y q 0 cap) (cK g op)) 294))(D:Aside (·=g) w1 w2)(Q:(d.step c).op=op)(K:(d.step c).held=[]):Nxt w w2 B g (Y q m cap) (Y q 0 cap) d c:=by
 refine⟨by rw[Q];exact J,?_,?_,fun i L=>?_⟩
 ·rw[K];exact(h.held.cut0).aside D (fun j M A=>h.apart (by rw[<-A,<-M];cases q <;> rfl))
 ·have:=(af E (fun i=>i=g∨(Y q m cap).ownBlock=U i)).trans D (fun i _ A=>AZ A);exact this
 ·left;rw[<-L];cases q <;> rfl
theorem iZ{N:Nat}{d:Sp}{c:UInt8}(h:Nxt w w1 B g v v' d c)(E:w1.1[N]?=U (wx #[x,y] 240))(K:w.1.size<=N)(J:g<w.1.size)(a b:AA):Nxt w (set2 w1 N a b) B g v v' d c :=
 h.beside (fS w1 N a b) (by omega) (fun k D A=>bB h.held E (by decide) (by rw[D,A])) (fun k D A=>by omega)
theorem qR{A cap N:Nat}(h:br w1 A g cap l)(D:w1.1[N]?=U (wx #[x,y] 240))(a b:AA):br (set2 w1 N a b) A g cap l :=
 Has.aside (v:=Y (U ⟨g,0,I⟩) l.length cap) h (fS w1 N a b) (fun k J E=>bB (v:=Y (U ⟨g,0,I⟩) l.length cap) h D (by decide) (by rw[J,E]))
theorem zq(w:AU)(B g:Nat)(v:AA)(d:Sp)(c:UInt8)(h:Spl w B g v d)(Q:d.op=I):Calls AE 206 #[qq (U ⟨g,0,I⟩),O .u8 (c.toNat:Int)] w fun e w'=>∃v' a u,e=wv (.agg #[O R a,u])∧Nxt w w' B g v v' d c∧vq w' w.1.size v' (d.told c) a u:=by
 obtain⟨p,cap,a3,-,-⟩:=h.held.at;subst a3;obtain⟨A,M⟩:∃A,A=w.alloc (wx #[O R 0,Y I 0 0] 240):=⟨_,rfl⟩;have hb:AC w.1.size w A:=by rw[M];exact gQy
 have E:A.1[w.1.size]?=U (wx #[O R 0,Y I 0 0] 240):=by rw[M];exact di w
 have J:=h.on hb;have X:Hid (d.told c=[]):=Sp.told_none Q c;have a2:=h.lt;have a0:g≠w.1.size:=by omega
 have aw:=gQq J;have ak:=gQq hb;by_cases D:c=0
 ·have c0:A.cell? ⟨g,0,I⟩=U (O R d.n):=bW J.lies 0;have S:=gQq (jc g d.n d.held.length (opI d.op) p cap (cK g d.op) A (U d.n) J.lies);simp only[opI] at S;have ai:(c.toNat:Int)=0:=by rw[D];rfl
  have L:=gQq E;rw[ai,D];rw[D] at X;clear h D hb J E ai;subst M;go_enter func206,ntmps206;go_wp2_with fail;refine S.out.mono ?_;rintro e w1 ⟨rfl,aj,ab⟩;have K:w1.1[w.1.size]?=U (wx #[O R 0,Y I 0 0] 240):=by rw[ab.block _ (dd L.out) (fun D=>a0 D.symm)];exact L.out
  have ah:=gQq K;have V:=gQq (fU (c:=0) aw.out ak.out aj ab (Sp.fence_op d) (Sp.fence_held d));have a4:w1.cell? ⟨w.1.size,0,I⟩=U (O R 0):=by simp[World.cell?,K]
  have a5:w1.cell? ⟨w.1.size,1,I⟩=U (Y I 0 0):=by simp[World.cell?,K]
  have a6:w1.frozen? ⟨w.1.size,0,I⟩=false:=by simp[World.frozen?,K]
  have a7:w1.frozen? ⟨w.1.size,1,I⟩=false:=by simp[World.frozen?,K]
  clear K aj ab S;go_wp2;refine bodyPost_ret (v:=.agg #[O R 0,Y I 0 0]) (results_cell_row rfl _ _ w.1.size _ _ _ _ rfl (dG ah.out _ _) underlying240 rfl (by kernel_rfl)) rfl ?_;exact⟨_,_,_,rfl,iZ V.out ah.out gQx a2 _ _,AZ ⟨X.out,_,_,rfl⟩⟩
 ·have a8:((c.toNat:Int)==0)=false:=by
   rw[BQ];intro a9;exact D (UInt8.toNat_inj.1 (by simp;omega))
  have a4:A.cell? ⟨w.1.size,0,I⟩=U (O R 0):=by simp[World.cell?,E]
  have a5:A.cell? ⟨w.1.size,1,I⟩=U (Y I 0 0):=by simp[World.cell?,E]
  have a6:A.frozen? ⟨w.1.size,0,I⟩=false:=by simp[World.frozen?,E]
  have a7:A.frozen? ⟨w.1.size,1,I⟩=false:=by simp[World.frozen?,E]
  have Z:(d.step c).op=none:=Sp.step_op_none Q D;have V:Hid (Nxt w A B g (Y p d.held.length cap) (Y p d.held.length cap) d c):=by
   refine⟨?_,?_,af hb _,fun i a1=>AZ a1⟩
   ·rw[Z];have:=J.lies;rw[Q] at this;exact this
   ·have:=J.held;rw[Sp.held_none Z];rw[Sp.held_none Q] at this ⊢;exact this
  have L:=gQq E;clear h D hb J E Z;subst M;go_enter func206,ntmps206;go_wp2;refine bodyPost_ret (v:=.agg #[O R 0,Y I 0 0]) (results_cell_row rfl _ _ w.1.size _ _ _ _ rfl L.out underlying240 rfl (by kernel_rfl)) rfl ?_;exact⟨_,_,_,rfl,V.out,AZ ⟨X.out,_,_,rfl⟩⟩
end
section
open Go.RowKit
attribute [local go_sem] aZ
structure Mid(w W:AU)(B g N k:Nat)(v u:AA)(d:Sp):Prop where
 spl:Spl W B g v d
 has:Has W w.1.size u d.held
 var:W.1[N]?=U (wx #[O R k,u] 240)
 res:W.1[w.1.size]?=U (wx #[O R 0,Y I 0 0] 240)
 low:AC w.1.size w W
 far:w.1.size<N
theorem tR{d:Sp}(E:o=wx #[O R 0,Y I 0 0] 240)(h:Spl (w.alloc o) B g v d)(K:Has w1 n u d.held)(D:n=(w.alloc o).1.size)(hb:AC (w.alloc o).1.size (w.alloc o) w1):Mid w (w1.alloc (wx #[O R k,u] 240)) B g w1.1.size k v u d:=by
 have A:AC w1.1.size w1 (w1.alloc (wx #[O R k,u] 240)):=gQy;have J:=hb.size;simp at J;refine⟨(h.on hb).on A,?_,aV _ _,?_,?_,by omega⟩
 ·exact(K.low (by rw[D];simp)).on A
 ·rw[A.block _ (by omega),hb.block _ (by simp),E];exact di w
 ·exact((Below.refl w.1.size w).alloc gQx _).trans ((hb.mono (by simp)).trans (A.mono (by omega)))
theorem tQ{d:Sp}(K:o=wx #[O R 0,Y I 0 0] 240)(h:Spl (w.alloc o) B g v d)(Z:g<w.1.size)(X:Has w1 n u d.held)(S:n=((w.alloc o).alloc o).1.size)(hb:AC ((w.alloc o).alloc o).1.size ((w.alloc o).alloc o) w1):Mid w (set2 w1 (w.1.size+1) (O R k) u) B g (w.1.size+1) k v u d:=by
 have E:AC (w.alloc o).1.size (w.alloc o) ((w.alloc o).alloc o):=gQy;have V:=hb.size;simp at V;have L:w1.1[w.1.size+1]?=U (wx #[O R 0,Y I 0 0] 240):=by
  rw[hb.block _ (by simp),K];have:=di (w.alloc o);simpa[K] using this
 have A:=fS w1 (w.1.size+1) (O R k) u;have M:=(h.on E).on hb;refine⟨M.aside A (by omega) (fun j D J=>bB M.held L (by decide) (by rw[D,J])),?_,dG L _ _,?_,?_,by omega⟩
 ·have:=X.low (B':=w.1.size) (by rw[S];simp;omega);exact this.aside A (fun j D J=>bB this L (by decide) (by rw[D,J]))
 ·rw[A.block _ (by omega) (by omega),hb.block _ (by simp;omega),E.block _ (by simp),K];exact di w
 ·have Q:AC w.1.size w w1:=((Below.refl w.1.size w).alloc gQx _).trans ((E.mono (by simp)).trans (hb.mono (by simp;omega)));exact Q.trans (A.below (by omega) (fun j D=>by omega))
theorem pf(w:AU)(B g:Nat)(v:AA)(d:Sp)(k:Nat)(h:Spl w B g v d)(a7:d.op=U k):Calls AE 205 #[qq (U ⟨g,0,I⟩),O .u8 0] w fun e w'=>∃v' a u,e=wv (.agg #[O R a,u])∧Nxt w w' B g v v' d 0∧vq w' w.1.size v' (d.told 0) a u:=by
  obtain⟨p,cap,b4,-,-⟩:=h.held.at;subst b4;obtain⟨D,ah⟩:∃D,D=w.alloc (wx #[O R 0,Y I 0 0] 240):=⟨_,rfl⟩;have hb:AC w.1.size w D:=by rw[ah];exact gQy
  have bq:D.1[w.1.size]?=U (wx #[O R 0,Y I 0 0] 240):=by rw[ah];exact di w
  have Q:=h.on hb;have bn:=h.lt;have cj:g≠w.1.size:=by omega
  have a9:=gQq Q;have bv:=gQq hb;have c0:D.cell? ⟨g,0,I⟩=U (O R d.n):=bW Q.lies 0;have c1:D.cell? ⟨g,1,I⟩=U (O R k):=by have:=bW Q.lies 1;rw[a7] at this;exact this
  have c2:D.cell? ⟨g,2,I⟩=U (Y p d.held.length cap):=bW Q.lies 2;have bX:=gQq bq;obtain⟨S,a3⟩:∃S,S=D.alloc (wx #[O R 0,Y I 0 0] 240):=⟨_,rfl⟩;have ai:AC D.1.size D S:=by rw[a3];exact gQy
  have a2:=Q.on ai;have bi:S.cell? ⟨g,1,I⟩=U (O R k):=by have:=bW a2.lies 1;rw[a7] at this;exact this
  have bj:S.cell? ⟨g,2,I⟩=U (Y p d.held.length cap):=bW a2.lies 2;have aj:Hid (∀W,AC D.1.size D W->Calls AE 215 #[Y p d.held.length cap] W fun e w'=>∃q cap,e=wv (Y q d.held.length cap)∧Has w' W.1.size (Y q d.held.length cap) d.held∧AC W.1.size W w'):=by
    intro W b3;obtain⟨co,cb,a5,b2,-⟩:=Q.held.at;injection a5 with e1;subst e1;exact uS p cap d.held (by have:=d.held_le;omega) W (b2.on b3)
  have ck:¬w.1.size+1=g:=by omega
  have cn:¬w.1.size=g:=by omega
  have bb:Hid (S.1[w.1.size+1]?=U (wx #[O R 0,Y I 0 0] 240)):=by
    show _=_;rw[a3];have:=di D;rw[ah] at this ⊢;simpa using this
  have bT:=gQq (fun j (a6:(Y p d.held.length cap).ownBlock=U j)=>(h.held.lt j a6).2);clear h hb Q bq a2;subst a3;subst ah;go_enter func205,ntmps205;go_wp2_with fail
  go_region_held3 (fun w'=>w'.cell? ⟨g,1,I⟩=U (O R k)∧w'.cell? ⟨g,2,I⟩=U (Y p d.held.length cap)) (first | go_keep | exact⟨by assumption,by assumption⟩ | (refine⟨?_,?_⟩ <;> first | assumption | (simp;assumption)))
    (first
     | (go_at_call 215
        refine(aj.out _ (by first | exact gQz | exact gQz.drew)).mono ?_;rintro e w1 ⟨q,M,rfl,K,J⟩;have bc:w1.cell? ⟨g,1,I⟩=U (O R k):=(by rw[J.cell (p:=⟨g,1,I⟩) (by simp;omega)];exact c1);have be:w1.cell? ⟨g,2,I⟩=U (Y p d.held.length cap):=(by rw[J.cell (p:=⟨g,2,I⟩) (by simp;omega)];exact c2);have ci:¬w1.1.size=g:=(by have:=J.size;simp at this;omega);have aw:=gQq K;have E:=gQq J;clear K J)
     | (go_at_call 215
        refine(aj.out _ (by first | exact ai | exact ai.drew)).mono ?_;rintro e w1 ⟨q,M,rfl,K,J⟩;have bc:w1.cell? ⟨g,1,I⟩=U (O R k):=(by rw[J.cell (p:=⟨g,1,I⟩) (by simp;omega)];exact bi);have be:w1.cell? ⟨g,2,I⟩=U (Y p d.held.length cap):=(by rw[J.cell (p:=⟨g,2,I⟩) (by simp;omega)];exact bj);have X:w1.1[w.1.size+1]?=U (wx #[O R 0,Y I 0 0] 240):=(J.block (w.1.size+1) (by simp)).trans bb.out;have b5:w1.cell? ⟨w.1.size+1,0,I⟩=U (O R 0):=(by simp[World.cell?,X]);have b6:w1.cell? ⟨w.1.size+1,1,I⟩=U (Y I 0 0):=(by simp[World.cell?,X]);have b7:w1.frozen? ⟨w.1.size+1,0,I⟩=false:=(by simp[World.frozen?,X]);have b8:w1.frozen? ⟨w.1.size+1,1,I⟩=false:=(by simp[World.frozen?,X]);have b9:=gQq X;clear X;have aw:=gQq K;have E:=gQq J;clear K J))
  case' refine_2.refine_3.refine_3.refine_3.refine_3.refine_3.refine_3.refine_3.refine_3.refine_1.refine_2.refine_3.refine_1.refine_2.refine_1.refine_2=>
    have A:=gQq (tR (k:=k) rfl a9.out aw.out rfl ⟨E.out.os,E.out.tape,E.out.output,E.out.size,E.out.block⟩);generalize w1.alloc (wx #[O R k,Y q d.held.length M] 240)=a1 at A ⊢;generalize w1.1.size=ab at A ⊢
  case' refine_2.refine_3.refine_3.refine_3.refine_3.refine_3.refine_3.refine_3.refine_3.refine_2.refine_1.refine_2.refine_1.refine_2.refine_3.refine_1.refine_2=>
    have A:=gQq (tQ (k:=k) rfl a9.out bn aw.out rfl ⟨E.out.os,E.out.tape,E.out.output,E.out.size,E.out.block⟩);unfold set2 at A;generalize (w1.setCell ⟨w.1.size+1,0,I⟩ (O R k)).setCell ⟨w.1.size+1,1,I⟩ (Y q d.held.length M)=a1 at A ⊢;generalize w.1.size+1=ab at A ⊢
  all_goals
    clear c0 c1 c2 bi bj bc be bb aj bX bv ai;have b0:a1.cell? ⟨g,0,I⟩=U (O R d.n):=bW A.out.spl.lies 0;have ak:=gQq (jc g d.n d.held.length (opI d.op) p cap (cK g d.op) a1 (U d.n) A.out.spl.lies);simp only[opI] at ak;go_wp2_with fail;refine ak.out.mono ?_;rintro e L ⟨rfl,bl,Z⟩;have a8:L.1[ab]?=U (wx #[O R k,Y q d.held.length M] 240):=by
      rw[Z.block _ (dd A.out.var) (by have:=A.out.far;omega)];exact A.out.var
    have V:L.1[w.1.size]?=U (wx #[O R 0,Y I 0 0] 240):=by
      rw[Z.block _ (dd A.out.res) (by omega)];exact A.out.res
    have z0:L.cell? ⟨ab,0,I⟩=U (O R k):=(by simp[World.cell?,a8]);have z1:L.cell? ⟨ab,1,I⟩=U (Y q d.held.length M):=(by simp[World.cell?,a8]);have b5:L.cell? ⟨w.1.size,0,I⟩=U (O R 0):=(by simp[World.cell?,V]);have b6:L.cell? ⟨w.1.size,1,I⟩=U (Y I 0 0):=(by simp[World.cell?,V]);have b7:L.frozen? ⟨w.1.size,0,I⟩=false:=(by simp[World.frozen?,V]);have b8:L.frozen? ⟨w.1.size,1,I⟩=false:=(by simp[World.frozen?,V]);have bO:=gQq (fU (c:=0) A.out.spl A.out.low bl Z (Sp.fence_op d) (Sp.fence_held d));have bN:=gQq (A.out.has.aside Z (fun j a6 a4=>bB A.out.has A.out.spl.lies (by decide) (by rw[a6,a4])));have a0:=gQq V;clear a8 V bl Z ak b0 A;go_wp2;refine bodyPost_ret (v:=.agg #[O R k,Y q d.held.length M]) (results_cell_row rfl _ _ w.1.size _ _ _ _ rfl (dG a0.out _ _) underlying240 rfl (by kernel_rfl)) rfl ?_;refine⟨_,_,_,rfl,iZ bO.out a0.out gQx bn _ _,?_⟩;rw[Sp.told_some a7];by_cases K:d.held=[]
    · rw[AG K];exact AZ ⟨rfl,q,M,by rw[K];rfl⟩
    · rw[AF K];rcases bN.out.form with ⟨_,b1⟩ | ⟨bk,c2,a5,bp⟩
      · exact absurd b1 K
      · injection a5 with e1 _ e2;subst e1 e2;refine .inr ⟨k,d.held,bk,M,rfl,K,rfl,rfl,qR bp a0.out _ _,fun a4=>?_⟩;have cc:=bp.base.1;have cd:=bT.out bk (by rw[<-a4];cases p <;> rfl);omega
theorem rV(w:AU)(B g:Nat)(v:AA)(d:Sp)(k:Nat)(c:UInt8)(h:Spl w B g v d)(a0:d.op=U k)(D:c≠0)(Q:d.held.length=2200):Calls AE 205 #[qq (U ⟨g,0,I⟩),O .u8 (c.toNat:Int)] w fun e w'=>∃v' a u,e=wv (.agg #[O R a,u])∧Nxt w w' B g v v' d c∧vq w' w.1.size v' (d.told c) a u:=by
 obtain⟨p,cap,a2,-,-⟩:=h.held.at;subst a2;have ak:Hid (d.told c=[]):=Sp.told_else D;have S:Hid ((d.step c).op=I):=Sp.step_op_full a0 D Q;have a3:((c.toNat:Int)==0)=false:=by
  rw[BQ];intro a4;exact D (UInt8.toNat_inj.1 (by simp;omega))
 rw[Q] at h ⊢;obtain⟨A,L⟩:∃A,A=w.alloc (wx #[O R 0,Y I 0 0] 240):=⟨_,rfl⟩;have hb:AC w.1.size w A:=by rw[L];exact gQy
 have ab:A.1[w.1.size]?=U (wx #[O R 0,Y I 0 0] 240):=by rw[L];exact di w
 have J:=h.on hb;have a1:=h.lt;have aw:g≠w.1.size:=by omega
 have aj:=gQq J;have ah:=gQq hb;have c2:A.cell? ⟨g,2,I⟩=U (Y p 2200 cap):=bW J.lies 2;have K:=gQq (jc g d.n 2200 (opI d.op) p cap (cK g d.op) A I J.lies);simp only[opI] at K;have V:=gQq ab;clear h hb J ab D Q;subst L;go_enter func205,ntmps205;go_wp2_with fail;refine K.out.mono ?_;rintro e w1 ⟨rfl,Z,M⟩;have E:w1.1[w.1.size]?=U (wx #[O R 0,Y I 0 0] 240):=by rw[M.block _ (dd V.out) (fun D=>aw D.symm)];exact V.out
 have X:=gQq E;have ai:=gQq (fU (c:=c) aj.out ah.out Z M S.out (Sp.held_none S.out));have a5:w1.cell? ⟨w.1.size,0,I⟩=U (O R 0):=by simp[World.cell?,E]
 have a6:w1.cell? ⟨w.1.size,1,I⟩=U (Y I 0 0):=by simp[World.cell?,E]
 have a7:w1.frozen? ⟨w.1.size,0,I⟩=false:=by simp[World.frozen?,E]
 have a8:w1.frozen? ⟨w.1.size,1,I⟩=false:=by simp[World.frozen?,E]
 clear E Z M K;go_wp2;refine bodyPost_ret (v:=.agg #[O R 0,Y I 0 0]) (results_cell_row rfl _ _ w.1.size _ _ _ _ rfl (dG X.out _ _) underlying240 rfl (by kernel_rfl)) rfl ?_;exact⟨_,_,_,rfl,iZ ai.out X.out gQx a1 _ _,AZ ⟨ak.out,_,_,rfl⟩⟩
theorem tP{E:AU}{m cap:Nat}{p:OA}{D:Nat}{A:L8}{d:Sp}{c:UInt8}(hb:AC w.1.size w E)(K:W.1[g]?=U (wx (bP d.n (opI d.op) (Y p m cap) (cK g d.op)) 294))(M:Has W B (Y q A.length D) A)(X:Aside (fun k=>(Y p m cap).ownBlock=U k) E W)(ai:∀k,(Y q A.length D).ownBlock=U k->(Y p m cap).ownBlock=U k∨E.1.size<=k)(aj:A=d.held++[c])(ah:d.op=U k)(S:(d.step c).op=U k)(V:(d.step c).held=d.held++[c]):
  Nxt w (W.setCell ⟨g,2,I⟩ (Y q A.length D)) B g (Y p m cap) (Y q A.length D) d c:=by
 have ak:=hb.size;refine⟨?_,?_,?_,fun i Z=>?_⟩
 ·rw[S];rw[ah] at K;exact jm K 2 _ rfl
 ·rw[V,<-aj];exact M.aside ((Aside.refl (·=g) W).setCell (p:=⟨g,2,I⟩) (AZ rfl) _) (fun j ab J=>bB M K (by decide) (by rw[ab,J]))
 ·have Q:Aside (fun i=>i=g∨(Y p m cap).ownBlock=U i) w W:=(af hb _).trans X (fun i _ J=>.inr J);exact Q.setCell (p:=⟨g,2,I⟩) (AZ (AZ rfl)) _
 ·rcases ai i Z with L | L
  ·exact AZ L
  ·exact .inr (by omega)
theorem rU(w:AU)(B g:Nat)(v:AA)(d:Sp)(k:Nat)(c:UInt8)(h:Spl w B g v d)(ai:d.op=U k)(D:c≠0)(ab:d.held.length≠2200):Calls AE 205 #[qq (U ⟨g,0,I⟩),O .u8 (c.toNat:Int)] w fun e w'=>∃v' a u,e=wv (.agg #[O R a,u])∧Nxt w w' B g v v' d c∧vq w' w.1.size v' (d.told c) a u:=by
  obtain⟨p,cap,bp,-,-⟩:=h.held.at;subst bp;have bc:Hid (d.told c=[]):=Sp.told_else D;have V:=gQq (Sp.step_op_some ai D ab);have bO:((c.toNat:Int)==0)=false:=by
    rw[BQ];intro b0;exact D (UInt8.toNat_inj.1 (by simp;omega))
  have bT:((d.held.length:Int)==2200)=false:=by
    rw[BQ];omega
  have b1:=d.held_le;obtain⟨A,L⟩:∃A,A=w.alloc (wx #[O R 0,Y I 0 0] 240):=⟨_,rfl⟩;have hb:AC w.1.size w A:=by rw[L];exact gQy
  have ak:A.1[w.1.size]?=U (wx #[O R 0,Y I 0 0] 240):=by rw[L];exact di w
  have K:=h.on hb;have bn:=h.lt;have bk:g≠w.1.size:=by omega
  have bb:=gQq K;have a3:=gQq hb;have c2:A.cell? ⟨g,2,I⟩=U (Y p d.held.length cap):=bW K.lies 2;have Q:AC A.1.size A (A.alloc (wx #[O .u8 (c.toNat:Int)] 5)):=gQy;have J:=gQq (K.on Q);have a1:Hid (At (A.alloc (wx #[O .u8 (c.toNat:Int)] 5)) (U ⟨w.1.size+1,0,I⟩) [c]):=by
    have e:A.1.size=w.1.size+1:=(by rw[L];simp);have:=(Own.at (w:=A.alloc (wx #[O .u8 (c.toNat:Int)] 5)) (b:=A.1.size) (l:=[c]) ⟨#[],aV A _⟩);rw[e] at this;exact this
  have a4:=gQq (hb.trans (Q.mono hb.size));have X:=gQq (ja ak Q);have a0:=h.held.lt;have be:Hid (∀j,(Y p d.held.length cap).ownBlock=U j->j<w.1.size):=fun j bl=>(a0 j bl).2;have bX:B<=w.1.size:=by have:=h.base;omega
  clear h hb K ak D ab Q a0 bb a3;subst L;go_enter func205,ntmps205
  go_wp2_with (at_builtin;refine aD J.out.held a1.out (by simp;omega) (by simp;omega) rfl rfl rfl rfl rfl ?_;intro bv q bj W bi Z M aj;have ah:=J.out.apart;have S:W.1[g]?=_:=(M.block g J.out.lt ah).trans J.out.lies;have E:W.1[w.1.size]?=_:=(M.block w.1.size (dd X.out) (fun D=>by have:=be.out _ D;omega)).trans X.out;have b2:W.cell? ⟨g,2,I⟩=U (Y p d.held.length cap):=bW S 2;have bN:=fT S 2;have bq:¬g=w.1.size:=bk;have b3:W.cell? ⟨w.1.size,0,I⟩=U (O R 0):=(by simp[World.cell?,E]);have b4:W.cell? ⟨w.1.size,1,I⟩=U (Y I 0 0):=(by simp[World.cell?,E]);have b5:W.frozen? ⟨w.1.size,0,I⟩=false:=(by simp[World.frozen?,E]);have b6:W.frozen? ⟨w.1.size,1,I⟩=false:=(by simp[World.frozen?,E]);have a7:=gQq S;have a9:=gQq E;have a5:=gQq Z;have a2:=gQq M;have a8:=gQq aj;clear S E Z M aj ah)
  have a6:=gQq (tP (c:=c) a4.out a7.out a5.out a2.out a8.out bi.out ai V.out.1 V.out.2);have aw:(W.setCell ⟨g,2,I⟩ (Y q bv.length bj)).1[w.1.size]?=U (wx #[O R 0,Y I 0 0] 240):=by
    rw[Below.heap_setCell _ _ _ _ (fun D=>bq D.symm)];exact a9.out
  refine bodyPost_ret (v:=.agg #[O R 0,Y I 0 0]) (results_cell_row rfl _ _ w.1.size _ _ _ _ rfl (dG aw _ _) underlying240 rfl (by kernel_rfl)) rfl ?_;exact⟨_,_,_,rfl,iZ a6.out aw gQx bn _ _,AZ ⟨bc.out,_,_,rfl⟩⟩
theorem zL(w:AU)(B g:Nat)(v:AA)(d:Sp)(k:Nat)(c:UInt8)(h:Spl w B g v d)(D:d.op=U k):Calls AE 205 #[qq (U ⟨g,0,I⟩),O .u8 (c.toNat:Int)] w fun e w'=>∃v' a u,e=wv (.agg #[O R a,u])∧Nxt w w' B g v v' d c∧vq w' w.1.size v' (d.told c) a u:=by
 by_cases A:c=0
 ·subst A;exact pf w B g v d k h D
 ·by_cases E:d.held.length=2200
  ·exact rV w B g v d k c h D A E
  ·exact rU w B g v d k c h D A E
end
section
open Go.RowKit
attribute [local go_sem] aZ
theorem wA:(Tryz.prog.info? 240).map (fun i=>(i.zero,i.size,i.bytes))=U (U (.agg #[O R 0,Y I 0 0]),2,32):=by kernel_rfl
structure bF(w:AU)(B:Nat)(v:AA)(bs:List Nat)(rs:List Run):Prop where
 out:∃us:List AA,w.ownsRow B 240 2 v rs.length us∧bs.length=rs.length∧∀j (hj:j<rs.length),∃g cap,bs[j]?=U g∧us[j*2]?=U (O R rs[j].1)∧us[j*2+1]?=U (Y (U ⟨g,0,I⟩) rs[j].2.length cap)∧br w B g cap rs[j].2
theorem qT(w:AU)(B:Nat):bF w B (Y I 0 0) [] []:=⟨[],⟨rfl,AZ ⟨rfl,rfl⟩⟩,rfl,fun j A=>by simp at A⟩
section
variable {w w':AU} {B:Nat} {v:AA} {bs:List Nat} {rs:List Run}
theorem bF.lt(h:bF w B v bs rs):∀k,v.ownBlock=U k->B<=k∧k<w.1.size:=by
 obtain⟨us,A,_⟩:=h.out;exact World.ownsRow.lt A
theorem bF.mem(h:bF w B v bs rs):∀k∈bs,B<=k∧k<w.1.size:=by
 obtain⟨us,L,M,E⟩:=h.out;intro k K;obtain⟨j,J,rfl⟩:=List.mem_iff_getElem.1 K;obtain⟨g,cap,A,_,_,D⟩:=E j (by omega);rw[List.getElem?_eq_getElem J] at A;injection A with A;rw[A];exact⟨D.base.1,D.base.2.1⟩
theorem fV{F:Nat->Prop}{cap:Nat}(h:br w B g cap l)(E:Aside F w w')(D:¬F g):br w' B g cap l :=
 Has.aside (v:=Y (U ⟨g,0,I⟩) l.length cap) h E (fun k A J=>by simp only[Value.ownBlock,Option.some.injEq] at A;subst A;exact D J)
theorem nf{cap:Nat}(h:br w B g cap l)(A:B'<=B):br w B' g cap l:=Has.low (v:=Y (U ⟨g,0,I⟩) l.length cap) h A
theorem bF.aside{F:Nat->Prop}(h:bF w B v bs rs)(J:Aside F w w')(aj:∀k,v.ownBlock=U k->¬F k)(Z:∀k∈bs,¬F k):bF w' B v bs rs:=by
 obtain⟨us,D,ah,Q⟩:=h.out;refine⟨us,⟨D.1,?_⟩,ah,fun j ab=>?_⟩
 ·rcases D.2 with S | ⟨g,cap,K,rfl,V,E,X⟩
  ·exact AZ S
  ·exact .inr ⟨g,cap,K,rfl,V,by rw[J.block g (dd E) (aj g rfl)];exact E,X⟩
 ·obtain⟨g,cap,A,L,M,ai⟩:=Q j ab;exact⟨g,cap,A,L,M,fV ai J (Z g (List.mem_of_getElem? A))⟩
theorem bF.on(h:bF w B v bs rs)(hb:AC w.1.size w w'):bF w' B v bs rs:=h.aside (af hb (fun _=>False)) (fun _ _ A=>A) (fun _ _ A=>A)
theorem bF.form(h:bF w B v bs rs):∃q c,v=Y q rs.length c∧rs.length<=c:=by
 obtain⟨us,A,K⟩:=h.out;rcases A.2 with ⟨rfl,D⟩ | ⟨g,cap,J,rfl,_,_,E,_⟩
 ·exact⟨I,0,by rw[D],by omega⟩
 ·exact⟨_,_,rfl,E⟩
end
theorem bF.apart{bs:List Nat}{rs:List Run}(h:bF w B v bs rs){C:AV}{T:TypeId}(E:w.1[g]?=U (wx C T))(K:T≠240):v.ownBlock≠U g:=by
 intro D;obtain⟨us,A,-⟩:=h.out;rcases A.2 with ⟨A,_⟩ | ⟨M,cap,L,A,_,J,_⟩
 ·rw[A] at D;cases D
 ·rw[A] at D;simp only[Value.ownBlock,Option.some.injEq] at D;subst D;rw[J] at E;injection E with h4;injection h4 with _ h5;exact K h5.symm
theorem eA{cap:Nat}(h:br w B g cap l):∃C,w.1[g]?=U (wx C 5):=by
 rcases h.2 with ⟨A,_⟩ | ⟨K,J,D,A,_,E,_⟩
 ·cases A
 ·cases A
  exact⟨D,E⟩
theorem kO(h:Has w B v l)(A:v.ownBlock=U g):∃C,w.1[g]?=U (wx C 5):=by
 rcases h.2 with ⟨D,_⟩ | ⟨L,K,E,D,_,J,_⟩
 ·rw[D] at A;cases A
 ·rw[D] at A;simp only[Value.ownBlock,Option.some.injEq] at A;subst A;exact⟨E,J⟩
theorem bF.block{bs:List Nat}{rs:List Run}(h:bF w B v bs rs):∀k∈bs,∃C,w.1[k]?=U (wx C 5):=by
 obtain⟨us,L,M,D⟩:=h.out;intro k J;obtain⟨j,E,rfl⟩:=List.mem_iff_getElem.1 J;obtain⟨g,cap,A,_,_,K⟩:=D j (by omega);rw[List.getElem?_eq_getElem E] at A;injection A with A;rw[A];exact eA K
theorem sT{ad H:Nat}{bs:List Nat}{rs:List Run}(M:bF w B v bs rs)(k:Nat)(J:L8)(D c2:Nat)(Z:br w B D c2 J)(a8:w.1[ad]?=U (wx #[O R k,Y (U ⟨D,0,I⟩) J.length c2] 240 (0,0)))(bq:rs.length<=1000000000)(a5:B<=w.1.size)(a6:w.1.size=H){ah:Array Oper}{rest:List Oper}{o:Oper}{a:Act}{Q:Exit->Act->AU->Prop}{y x:Operand}(bb:o.guard=I)(bj:o.op=Op.call { callee:=Callee.builtin Builtin.append,args:=#[y,x],argTypes:=#[238,238] })(bk:a.eval y=v)(bn:a.eval x=Y (U ⟨ad,0,I⟩) 1 1)(a7:∀g cap w',bF w' B (Y (U ⟨g,0,I⟩) (rs.length+1) cap) (bs++[D]) (rs++[(k,J)])->Aside (fun j=>v.ownBlock=U j) w w'->(v.ownBlock=U g∨g=H)->wpList AE ah Q rest (a.put o.dst (Y (U ⟨g,0,I⟩) (rs.length+1) cap)) w'):
  wpList AE ah Q (o::rest) a w:=by
 obtain⟨i,bc,bp,bl,a9⟩:=info_parts wA;obtain⟨us,V,X,a1⟩:=M.out
 refine wpList_append_lies w bb y x 238 bj B 240 i (.agg #[O R 0,Y I 0 0]) 2 32 underlying238 bc bp bl a9 rfl (by decide) v rs.length us bk V ⟨ad,0,I⟩ 1 1 _ bn (by simp)
  (World.news_of_block a8) (by intro a A;simp at A;rcases A with rfl | rfl <;> rfl) (by decide) (by unfold maxLen;omega) (by omega) a5 H a6 fun g cap w' a2 a3 a4 _=>?_
 have A:=ce a3;have ab:us.length=rs.length*2:=V.1;refine a7 g cap w' ⟨us++[O R k,Y (U ⟨D,0,I⟩) J.length c2],?_,by simp[X],fun j be=>?_⟩ A a4
 ·rw[AH,AO];simpa using a2
 ·by_cases E:j<rs.length
  ·obtain⟨a0,ai,aj,ak,aw,S⟩:=a1 j E;refine⟨a0,ai,?_,?_,?_,?_⟩
   ·rw[List.getElem?_append_left (by omega)];exact aj
   ·rw[List.getElem?_append_left (by omega),ak,List.getElem_append_left E]
   ·rw[List.getElem?_append_left (by omega),aw,List.getElem_append_left E]
   ·rw[List.getElem_append_left E];obtain⟨C,K⟩:=eA S;exact fV S A (fun L=>M.apart K (by decide) L)
  ·have bi:j=rs.length:=(by rw[AH,AO] at be;omega);subst bi;obtain⟨C,K⟩:=eA Z;refine⟨D,c2,?_,?_,?_,?_⟩
   ·rw[List.getElem?_append_right (by omega),X];simp
   ·rw[List.getElem?_append_right (by omega),ab];simp
   ·rw[List.getElem?_append_right (by omega),ab,show rs.length*2+1-rs.length*2=1 by omega];simp
   ·simp only[List.getElem_append_right gQx,Nat.sub_self,List.getElem_cons_zero];exact fV Z A (fun L=>M.apart K (by decide) L)
structure FI(w wr:AU)(B g:Nat)(v rv v':AA)(bs:List Nat)(d:Sp)(m:L8):Prop where
 spl:Spl wr B g v' (d.run m)
 runs:bF wr w.1.size rv bs (d.tolds m)
 aside:Aside (fun i=>i=g∨v.ownBlock=U i) w wr
 own:∀k,v'.ownBlock=U k->v.ownBlock=U k∨w.1.size<=k
 off:∀k∈bs,v'.ownBlock≠U k
section
variable {w wr w1 w2:AU} {B g:Nat} {v rv v' v2:AA} {bs:List Nat} {d:Sp} {m:L8} {c:UInt8}
theorem FI.keeps(h:FI w wr B g v rv v' bs d m)(K:Nxt wr w1 B g v' v2 (d.run m) c)(hb:AC w1.1.size w1 w2):bF w2 w.1.size rv bs (d.tolds m)∧(∀k∈bs,v2.ownBlock≠U k):=by
 constructor
 ·refine(h.runs.aside K.aside (fun k E A=>?_) (fun k E A=>?_)).on hb
  ·rcases A with A | A
   ·subst A;exact h.runs.apart h.spl.lies (by decide) E
   ·obtain⟨C,D⟩:=kO h.spl.held A;exact h.runs.apart D (by decide) E
  ·rcases A with A | A
   ·subst A;obtain⟨C,D⟩:=h.runs.block k E;rw[h.spl.lies] at D;injection D with D;injection D with _ D;exact absurd D (by decide)
   ·exact h.off k E A
 ·intro k E A;rcases K.own k A with J | J
  ·exact h.off k E J
  ·have:=(h.runs.mem k E).2;omega
theorem Nxt.later(A:Nxt wr w1 B g v' v2 d c)(hb:AC w1.1.size w1 w2):Nxt wr w2 B g v' v2 d c:=A.beside (F:=fun _=>False) (af hb _) (fun h=>h) (fun _ _ h=>h) (fun _ _ h=>h)
theorem sd(h:FI w wr B g v rv v' bs d m)(L:Nxt wr w1 B g v' v2 (d.run m) c)(V:(d.run m).told c=[])(hb:AC w1.1.size w1 w2)(n:Nat)(Q:n=(d.run m).n+1):FI w (w2.setCell ⟨g,0,I⟩ (O R (n:Int))) B g v rv v2 bs d (m++[c]):=by
 subst Q;have K:=L.later hb;obtain⟨M,X⟩:=h.keeps L hb;have ab:=h.aside.size;have S:Aside (·=g) w2 (w2.setCell ⟨g,0,I⟩ (O R (((d.run m).n+1:Nat):Int))):=(Aside.refl (·=g) w2).setCell (p:=⟨g,0,I⟩) (AZ rfl) _;refine⟨?_,?_,?_,?_,X⟩
 ·rw[Sp.run_snoc];exact K.spl h.spl
 ·rw[Sp.tolds_snoc,V,Az];refine M.aside S (fun k J A=>?_) (fun k J A=>?_)
  ·subst A;exact M.apart K.lies (by decide) J
  ·subst A;obtain⟨C,D⟩:=M.block k J;rw[K.lies] at D;injection D with D;injection D with _ D;exact absurd D (by decide)
 ·refine(h.aside.trans K.aside (fun i Z A=>?_)).setCell (p:=⟨g,0,I⟩) (AZ (AZ rfl)) _;rcases A with A | A
  ·exact AZ A
  ·rcases h.own i A with E | E
   ·exact .inr E
   ·omega
 ·intro k J;rcases L.own k J with E | E
  ·exact h.own k E
  ·exact .inr (by omega)
theorem sa{aj:AA}{Q:Nat}{ai:L8}(h:FI w wr B g v rv v' bs d m)(X:Nxt wr w1 B g v' v2 (d.run m) c)(a3:(d.run m).told c=[(k,ai)])(hb:AC w1.1.size w1 w2)(a2:v2.ownBlock≠U Q)(V:Aside (fun j=>rv.ownBlock=U j) w2 W)(S:bF W w.1.size aj (bs++[Q]) (d.tolds m++[(k,ai)]))(n:Nat)(ak:n=(d.run m).n+1):FI w (W.setCell ⟨g,0,I⟩ (O R (n:Int))) B g v aj v2 (bs++[Q]) d (m++[c]):=by
 subst ak;have K:=X.later hb;obtain⟨Z,a5⟩:=h.keeps X hb;have a6:=h.aside.size;have a1:∀j,rv.ownBlock=U j->w.1.size<=j:=fun j L=>(Z.lt j L).1;have aw:rv.ownBlock≠U g:=Z.apart K.lies (by decide);have a4:∀j,v2.ownBlock=U j->¬rv.ownBlock=U j:=fun j L=>by
  obtain⟨C,E⟩:=kO K.held L;exact Z.apart E (by decide)
 have M:W.1[g]?=_:=(V.block g (dd K.lies) aw).trans K.lies;have ab:=K.held.aside V a4;have ah:Aside (·=g) W (W.setCell ⟨g,0,I⟩ (O R (((d.run m).n+1:Nat):Int))):=(Aside.refl (·=g) W).setCell (p:=⟨g,0,I⟩) (AZ rfl) _;refine⟨?_,?_,?_,?_,?_⟩
 ·rw[Sp.run_snoc];refine⟨jm M 0 _ (by rw[Sp.step_n];rfl),ab.aside ah (fun j L A=>bB ab M (by decide) (by rw[L,A])),h.spl.base⟩
 ·rw[Sp.tolds_snoc,a3];refine S.aside ah (fun k J A=>?_) (fun k J A=>?_)
  ·subst A;exact S.apart M (by decide) J
  ·subst A;obtain⟨C,E⟩:=S.block k J;rw[M] at E;injection E with E;injection E with _ E;exact absurd E (by decide)
 ·refine((h.aside.trans K.aside (fun i a0 A=>?_)).trans V (fun i a0 A=>?_)).setCell (p:=⟨g,0,I⟩) (AZ (AZ rfl)) _
  ·rcases A with A | A
   ·exact AZ A
   ·rcases h.own i A with D | D
    ·exact .inr D
    ·omega
  ·have:=a1 i A;omega
 ·intro k J;rcases X.own k J with D | D
  ·exact h.own k D
  ·exact .inr (by omega)
 ·intro k J;rcases List.mem_append.1 J with D | D
  ·exact a5 k D
  ·rw[List.mem_singleton.1 D];exact a2
end
theorem FI.start{d:Sp}(h:Spl w B g v d):FI w w B g v (Y I 0 0) v [] d [] :=
 ⟨h,by rw[Sp.tolds_nil];exact qT _ _,Aside.refl _ _,fun _ h=>AZ h,fun _ h=>by cases h⟩
end
section
open Go.RowKit
attribute [local go_sem] aZ
theorem zR(w:AU)(B g:Nat)(v:AA)(d:Sp)(p:OA)(c:Nat)(l:L8)(h:Spl w B g v d)(a9:At w p l)(X:l≠[]->∀b o,p=U ⟨b,o,I⟩->b≠g∧v.ownBlock≠U b)(bk:d.n+l.length<=100000000):Calls AE 178 #[qq (U ⟨g,0,I⟩),Y p l.length c] w fun e w'=>∃q cap v' bs,e=wv (Y q (d.tolds l).length cap)∧FI w w' B g v (Y q (d.tolds l).length cap) v' bs d l:=by
  have a3:=gQq (FI.start h);have bv:Hid (∀wr,Aside (fun i=>i=g∨v.ownBlock=U i) w wr->At wr p l):=fun wr b7=>by
    by_cases ai:l=[]
    · exact AZ ai
    · exact a9.aside b7 (fun b o hb V=>by
        rcases V with V | V
        · exact(X ai b o hb).1 V
        · exact(X ai b o hb).2 V)
  have co:l.length<=100000000:=by omega
  have b1:=gQq bk;clear h a9 X bk;go_enter func178,ntmps178;go_wp2;go_loopw [5,11] (fun cd a2 wr=>∃(i:Nat) (v':AA) (bs:List Nat),i<=l.length∧a2=O R i∧Hid (FI w wr B g v cd v' bs d (l.take i))) (fun _ a2 _=>l.length-(intOf a2).toNat);case atStart=>exact⟨0,v,[],by omega,rfl,a3.out⟩
  case round=>
    clear a3;obtain⟨i,v',bs,cn,rfl,J⟩:=hrel;obtain⟨bq,bp,b8,-⟩:=J.out.runs.form;subst b8;by_cases bi:i<l.length
    · have cr:(i:Int)<(l.length:Int):=(by omega);obtain⟨b,o,X,-,bc⟩:=aP (bv.out wr J.out.aside) (by omega);subst X;have be:=bc i bi;obtain⟨x,a1⟩:∃x,x=l[i]:=⟨_,rfl⟩;rw[<-a1] at be;have a6:Hid (l.take (i+1)=l.take i++[x]):=by
        show _=_;rw[List.take_succ_eq_append_getElem bi,a1]
      clear bc a1;obtain⟨A,ab⟩:∃A,A=d.run (l.take i):=⟨_,rfl⟩;have ck:A.n<=100000000:=by
        have:=b1.out;rw[ab,Sp.run_n,AM];omega
      have M:=gQq ab;have ah:Spl wr B g v' A:=(by rw[ab];exact J.out.spl);have c3:wr.cell? ⟨g,3,I⟩=U (cK g A.op):=bW ah.lies 3;have a7:=gQq (zq wr B g v' A x ah);have a4:=gQq (fun k=>zL wr B g v' A k x ah);clear ah ab;rcases hop:A.op with _ | k
      case' none=>
        rw[hop] at c3;simp only[cK] at c3;go_wp2_with fail;refine(a7.out hop).mono ?_
      case' some=>
        rw[hop] at c3;simp only[cK] at c3;go_wp2_with fail;refine(a4.out k hop).mono ?_
      all_goals
        clear a7 a4 c3 hop be;rintro e w1 ⟨v2,a,u,rfl,K,b6⟩;rcases b6 with ⟨Z,bn,a8,rfl⟩ | ⟨k,D,E,c2,Z,cb,rfl,rfl,bj,bl⟩
        · have L:AC w1.1.size w1 (w1.alloc (wx #[O R a,Y bn 0 a8] 240)):=gQy;have aw:=ja K.lies L;have z0:(w1.alloc (wx #[O R a,Y bn 0 a8] 240)).cell? ⟨g,0,I⟩=U (O R A.n):=bW aw 0;have ci:=fT aw 0;have Q:=gQq K;have S:=gQq Z;clear K Z aw;go_wp2;go_roundw;case rel=>
            refine⟨i+1,v2,bs,by omega,by go_num,?_⟩;rw[M.out] at Q S;show FI w _ _ _ _ _ _ _ _ _;rw[a6.out];have:=sd J.out Q.out S.out L (A.n+1) (by rw[M.out]);rw[show(((A.n+1:Nat):Int))=(A.n:Int)+1 by omega] at this;exact this
          case measure=>simp[intOf];omega
        · have cp:0<D.length:=List.length_pos_iff.2 cb;have cq:(0:Int)<(D.length:Int):=(by omega);have L:AC w1.1.size w1 ((w1.alloc (wx #[O R (k:Int),Y (U ⟨E,0,I⟩) D.length c2] 240)).alloc (wx #[O R (k:Int),Y (U ⟨E,0,I⟩) D.length c2] 240)):=gQy.alloc (by simp) _;have Q:=gQq K;have S:=gQq Z;have aj:=(J.out.keeps (by rw[<-M.out];exact K) L).1;have cc:=J.out.aside.size;have cs:=K.aside.size;have b4:=gQq aj;have b0:=gQq (nf (B':=w.1.size) (Has.on (v:=Y (U ⟨E,0,I⟩) D.length c2) bj L) cc);have bN:Hid (((w1.alloc (wx #[O R (k:Int),Y (U ⟨E,0,I⟩) D.length c2] 240)).alloc (wx #[O R (k:Int),Y (U ⟨E,0,I⟩) D.length c2] 240)).1[w1.1.size+1]?=U (wx #[O R (k:Int),Y (U ⟨E,0,I⟩) D.length c2] 240)):=by
            show _=_;have:=aV (w1.alloc (wx #[O R (k:Int),Y (U ⟨E,0,I⟩) D.length c2] 240)) (wx #[O R (k:Int),Y (U ⟨E,0,I⟩) D.length c2] 240);simpa using this
          have bX:Hid ((d.tolds (l.take i)).length<=1000000000):=by
            show _<=_;have:=Sp.tolds_len d (l.take i);rw[AM] at this;omega
          have b2:=gQq bl;have a5:=gQq (ja K.lies L);have bO:=gQq (aj.apart (ja K.lies L) (by decide));clear K Z aj bj bl
          go_wp2_with (at_builtin;refine sT b4.out k D E c2 b0.out bN.out bX.out (by simp;omega) rfl rfl rfl rfl rfl ?_;intro cj c3 W bb ak _;have a0:W.1[g]?=_:=(ak.block g (dd a5.out) bO.out).trans a5.out;have z0:W.cell? ⟨g,0,I⟩=U (O R A.n):=bW a0 0;have ci:=fT a0 0;have b3:=gQq bb;have b5:=gQq ak;clear bb ak a0)
          go_roundw;case rel=>
            refine⟨i+1,v2,bs++[E],by omega,by go_num,?_⟩;rw[M.out] at Q S;show FI w _ _ _ _ _ _ _ _ _;rw[a6.out];have:=sa J.out Q.out S.out L b2.out b5.out b3.out (A.n+1) (by rw[M.out]);rw[show(((A.n+1:Nat):Int))=(A.n:Int)+1 by omega] at this;exact this
          case measure=>simp[intOf];omega
    · have b9:i=l.length:=(by omega);subst b9;have bT:Hid (FI w wr B g v (Y bq (d.tolds l).length bp) v' bs d l):=by
        have:=J.out;rw[List.take_length] at this;exact this
      rw[List.take_length];clear J;go_wp2;go_ret;exact⟨bq,bp,v',bs,rfl,bT.out⟩
end
section
open Go.RowKit
attribute [local go_sem] aZ
theorem Ag(w:AU):Calls AE 177 #[] w fun e w'=>∃g v,e=wv (qq (U ⟨g,0,I⟩))∧Spl w' w.1.size g v Sp.start∧AC w.1.size w w':=by
 have D:(w.alloc (wx (bP 0 0 (Y I 0 0) .nilFunc) 294)).1[w.1.size]?=U (wx (bP 0 0 (Y I 0 0) .nilFunc) 294):=aV w _;have A:=gQq (jc w.1.size 0 0 0 I 0 .nilFunc _ I D);simp only[opI] at A;go_enter func177,ntmps177;go_wp2_with fail;refine A.out.mono ?_;rintro e w1 ⟨rfl,J,E⟩;go_wp2;go_ret;refine⟨w.1.size,_,rfl,⟨J,bG _ _,gQx⟩,?_⟩;exact((Below.refl w.1.size w).alloc gQx _).trans (E.below (by simp) (fun k L K=>by omega))
theorem bF.low{bs:List Nat}{rs:List Run}(h:bF w B v bs rs)(S:B'<=B):bF w B' v bs rs:=by
 obtain⟨us,A,X,L⟩:=h.out;refine⟨us,⟨A.1,?_⟩,X,fun j V=>?_⟩
 ·rcases A.2 with M | ⟨g,cap,D,rfl,ab,Q⟩
  ·exact AZ M
  ·exact .inr ⟨g,cap,D,rfl,by omega,Q⟩
 ·obtain⟨g,cap,E,J,K,Z⟩:=L j V;exact⟨g,cap,E,J,K,nf Z S⟩
theorem zm(w:AU)(p:OA)(c:Nat)(l:L8)(Z:At w p l)(a3:l.length<=100000000):Calls AE 153 #[Y p l.length c] w fun e w'=>∃q cap bs,e=wv (Y q (Sp.of l).out.length cap)∧bF w' w.1.size (Y q (Sp.of l).out.length cap) bs (Sp.of l).out∧AC w.1.size w w':=by
 have V:=gQq (Ag w);have J:=gQq Z;clear Z;go_enter func153,ntmps153;go_wp2_with fail;refine V.out.mono ?_;rintro e w1 ⟨g,v,rfl,D,hb⟩;have Q:=gQq (zR w1 w.1.size g v Sp.start p c l D (J.out.on hb) (fun ak b o E=>by
  rcases J.out with ai | ⟨aw,a4,aj,a0,a1⟩
  ·exact absurd ai ak
  ·rw[aj] at E;injection E with E;injection E with e1 _;subst e1
   exact⟨by have:=D.base;omega,fun A=>by have:=(D.held.lt _ A).1;omega⟩) (by simp[Sp.start];omega))
 have L:=gQq hb;have X:=gQq D;have M:Hid (Sp.start.tolds l=(Sp.of l).out):=by
  show _=_;have:=Sp.tolds_out Sp.start l;simpa[Sp.start,Sp.of] using this.symm
 clear D hb V J;go_wp2_with fail;refine Q.out.mono ?_;rintro e w2 ⟨q,cap,v',bs,rfl,K⟩;rw[M.out] at K ⊢;have S:=gQq K;clear K Q;go_wp2;go_ret;have ab:=S.out.runs;rw[M.out] at ab;have ah:=L.out.size;refine⟨q,cap,bs,rfl,ab.low ah,L.out.trans (S.out.aside.below ah (fun k a2 A=>?_))⟩;rcases A with A | A
 ·have:=X.out.base;omega
 ·have:=(X.out.held.lt _ A).1;omega
end
end Go.Proofs.YtngmnfdaedlodaaGreatDoor
