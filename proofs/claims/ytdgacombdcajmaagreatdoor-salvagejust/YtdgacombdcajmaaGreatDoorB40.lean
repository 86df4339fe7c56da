import Derived.Test.YtdgacombdcajmaaGreatDoorB39
import Derived.Deep.RegionHeld3
import Derived.Deep.RegionLaw
set_option maxHeartbeats 4000000
namespace Go.Proofs.YtdgacombdcajmaaGreatDoor
section
open Go.RowKit
def bP(n:Nat)(k:Int)(v f:Value):AV:=#[.int .i64 n,.int .i64 k,v,f]
def opI:Option Nat->Int
 |some k=>k
 |none=>-1
def cO(g:Nat):Option Nat->Value
 |some _=>.func (.func 93) #[.pointer (some ⟨g,0,none⟩)] #[]
 |none=>.func (.func 94) #[.pointer (some ⟨g,0,none⟩)] #[]
theorem aV(P:Program)(w:World)(a:Addr)(m:Mode)(fn:Fn)(first captured:AV):(store a (.func fn first captured) m).run P w=stored P w a (.func fn first captured) m:=run_store P w a _ m rfl
attribute [local go_sem] aV
theorem bW{w:World}{g n:Nat}{k:Int}{v f:Value}(h:w.1[g]?=some (.cells (bP n k v f) 142))(i:Nat):w.cell? ⟨g,i,none⟩=(bP n k v f)[i]?:=by
 unfold World.cell?
 rw[h]
 rfl
theorem fY{w:World}{g n:Nat}{k:Int}{v f:Value}(h:w.1[g]?=some (.cells (bP n k v f) 142))(i:Nat):w.frozen? ⟨g,i,none⟩=false:=by
 simp[World.frozen?,h]
theorem jl{w:World}{g n n':Nat}{k k':Int}{v f v' f':Value}(h:w.1[g]?=some (.cells (bP n k v f) 142))(i:Nat)(u:Value)(he:bP n' k' v' f'=(bP n k v f).setIfInBounds i u):(w.setCell ⟨g,i,none⟩ u).1[g]?=some (.cells (bP n' k' v' f') 142):=by
 simp only[World.setCell,Array.getElem?_modify,h,if_true,Option.map_some]
 rw[if_neg (by simp),he]
theorem iY(g n m:Nat)(k:Int)(q:OA)(cap:Nat)(f:Value)(w:World)(op:Option Nat)(h:w.1[g]?=some (.cells (bP n k (.slice q m cap) f) 142)):Calls Tryz.prog 63 #[.pointer (some ⟨g,0,none⟩),.int .i64 (opI op)] w fun e w'=>e=.returned (.tuple #[])∧w'.1[g]?=some (.cells (bP n (opI op) (.slice q 0 cap) (cO g op)) 142)∧Aside (·=g) w w':=by
 have c2:w.cell? ⟨g,2,none⟩=some (.slice q m cap):=bW h 2
 have f1:=fY h 1
 have f2:=fY h 2
 have f3:=fY h 3
 have c1:w.cell? ⟨g,1,none⟩=some (.int .i64 k):=bW h 1
 have c3:w.cell? ⟨g,3,none⟩=some f:=bW h 3
 have h1:(w.setCell ⟨g,1,none⟩ (.int .i64 (opI op))).1[g]?=some (.cells (bP n (opI op) (.slice q m cap) f) 142):=jl h 1 _ rfl
 have h2:((w.setCell ⟨g,1,none⟩ (.int .i64 (opI op))).setCell ⟨g,2,none⟩ (.slice q 0 cap)).1[g]?=some (.cells (bP n (opI op) (.slice q 0 cap) f) 142):=jl h1 2 _ rfl
 have h3:(((w.setCell ⟨g,1,none⟩ (.int .i64 (opI op))).setCell ⟨g,2,none⟩ (.slice q 0 cap)).setCell ⟨g,3,none⟩ (cO g (some 0))).drew.1[g]?=some (.cells (bP n (opI op) (.slice q 0 cap) (cO g (some 0))) 142):=jl h2 3 _ rfl
 have ha:Aside (·=g) w (((w.setCell ⟨g,1,none⟩ (.int .i64 (opI op))).setCell ⟨g,2,none⟩ (.slice q 0 cap)).setCell ⟨g,3,none⟩ (cO g (some 0))).drew:=((((Aside.refl (·=g) w).setCell (p:=⟨g,1,none⟩) (.inl rfl) _).setCell (p:=⟨g,2,none⟩) (.inl rfl) _).setCell (p:=⟨g,3,none⟩) (.inl rfl) _).drew
 have HL:=yQ h3
 have HA:=yQ ha
 clear h h1 h2 h3 ha
 cases op with
 |some k'=>
  have e0:(((k':Nat):Int)==-1)=false:=by rw[beq_eq_false_iff_ne];omega
  simp only[opI,cO] at HL HA ⊢
  cases q with
  |none=>
   go_enter Tryz.func63,Tryz.ntmps63
   go_wp2_with fail
   go_region_law (fail)
   all_goals
    go_wp2
    go_end0
    exact⟨rfl,HL.out,HA.out⟩
  |some a=>
   go_enter Tryz.func63,Tryz.ntmps63
   go_wp2_with fail
   go_region_law (fail)
   all_goals
    go_wp2
    go_end0
    exact⟨rfl,HL.out,HA.out⟩
 |none=>
  simp only[opI,cO] at HL HA ⊢
  have HL2:=yQ (jl (n':=n) (k':=-1) (v':=.slice q 0 cap) (f':=cO g none) HL.out 3 (cO g none) rfl)
  have HA2:=yQ (HA.out.setCell (p:=⟨g,3,none⟩) (.inl rfl) (cO g none))
  have f33:=fY HL.out 3
  have c33:=bW HL.out 3
  simp only[cO] at HL2 HA2
  cases q with
  |none=>
   go_enter Tryz.func63,Tryz.ntmps63
   go_wp2_with fail
   go_region_law (fail)
   all_goals
    go_wp2
    go_end0
    exact⟨rfl,HL2.out,HA2.out⟩
  |some a=>
   go_enter Tryz.func63,Tryz.ntmps63
   go_wp2_with fail
   go_region_law (fail)
   all_goals
    go_wp2
    go_end0
    exact⟨rfl,HL2.out,HA2.out⟩
end
section
open Go.RowKit
attribute [local go_sem] aV
structure Spl(w:World)(B g:Nat)(v:Value)(d:Sp):Prop where
 lies:w.1[g]?=some (.cells (bP d.n (opI d.op) v (cO g d.op)) 142)
 held:Has w B v d.held
 base:B<=g
theorem bv{w:World}{B g:Nat}{v:Value}{l:L8}(h:Has w B v l){C:AV}{T:TypeId}(hg:w.1[g]?=some (.cells C T))(hT:T≠5):v.ownBlock≠some g:=by
 intro hc
 rcases h.2 with ⟨h1,_⟩ | ⟨g',cap,cur,h1,_,h3,_⟩
 ·rw[h1] at hc;cases hc
 ·rw[h1] at hc
  simp only[Value.ownBlock,Option.some.injEq] at hc
  subst hc
  rw[h3] at hg
  injection hg with h4
  injection h4 with _ h5
  exact hT h5.symm
def tU(w':World)(Z:Nat)(v':Value)(rs:List Run)(a:Int)(u:Value):Prop :=
 (rs=[]∧∃p c,u=.slice p 0 c)∨∃k l g cap,rs=[(k,l)]∧l≠[]∧a=(k:Int)∧u=.slice (some ⟨g,0,none⟩) l.length cap∧bh w' Z g cap l∧v'.ownBlock≠some g
structure Nxt(w w':World)(B g:Nat)(v v':Value)(d:Sp)(c:UInt8):Prop where
 lies:w'.1[g]?=some (.cells (bP d.n (opI (d.step c).op) v' (cO g (d.step c).op)) 142)
 held:Has w' B v' (d.step c).held
 aside:Aside (fun i=>i=g∨v.ownBlock=some i) w w'
 own:∀i,v'.ownBlock=some i->v.ownBlock=some i∨w.1.size<=i
theorem oc(n c:Nat)(w:World):(binOp .eql 22 (.slice none n c) (.slice none 0 0)).run Tryz.prog w=.ok (.bool true) w:=by kernel_rfl
theorem oa(a:Addr)(n c:Nat)(w:World):(binOp .eql 22 (.slice (some a) n c) (.slice none 0 0)).run Tryz.prog w=.ok (.bool false) w:=by kernel_rfl
theorem tv(p:OA)(c:Nat)(l:L8)(hl:l.length<=1000000)(w:World)(h:At w p l):Calls Tryz.prog 133 #[.slice p l.length c] w fun e w'=>∃q cap,e=.returned (.slice q l.length cap)∧Has w' w.1.size (.slice q l.length cap) l∧Below w.1.size w w':=by
  cases p with
  |none=>
    have h0:l=[]:=by
      rcases h with rfl | ⟨b,o,hp,_,_⟩
      · rfl
      · cases hp
    subst h0
    have hq:=oc 0 c w
    go_enter Tryz.func133,Tryz.ntmps133
    go_wp2
    go_ret
    exact⟨none,0,rfl,aW _ _,yZ⟩
  |some a=>
    have HA:=yQ (h.on ((Below.refl _ w).alloc yX (.cells #[] 5)))
    have HM:=yQ (mM w).has
    have HB:Hid (Below w.1.size w (w.alloc (.cells #[] 5))):=yY
    have hq:=oa a l.length c w
    clear h
    go_enter Tryz.func133,Tryz.ntmps133
    go_wp2_with (first
      | (at_builtin
         refine aA (xs:=[]) HM.out HA.out (by simp;omega) (by simp) rfl rfl rfl rfl rfl ?_
         intro ys q cap W HY hh ha hk2
         have HB2:=yQ (ax ha HM.out (by simp))
         have HYs:=yQ hh
         clear ha hk2 hh)
      |fail)
    go_ret
    have e:ys=l:=HY.out
    rw[e] at HYs
    rw[e]
    exact⟨q,cap,rfl,HYs.out,HB.out.trans HB2.out⟩
theorem iX{w w':World}{g:Nat}{C:AV}{T:TypeId}(h:w.1[g]?=some (.cells C T))(hb:Below w.1.size w w'):w'.1[g]?=some (.cells C T):=by
 rw[hb.block g (Array.getElem?_eq_some_iff.1 h).1]
 exact h
theorem cZ{w:World}{g:Nat}{o:Obj}(h:w.1[g]?=some o):g<w.1.size:=(Array.getElem?_eq_some_iff.1 h).1
def set2(w:World)(g:Nat)(a b:Value):World:=(w.setCell ⟨g,0,none⟩ a).setCell ⟨g,1,none⟩ b
theorem dK{w:World}{g:Nat}{T:TypeId}{x y:Value}(h:w.1[g]?=some (.cells #[x,y] T))(a b:Value):(set2 w g a b).1[g]?=some (.cells #[a,b] T):=by
 have h1:(w.setCell ⟨g,0,none⟩ a).1[g]?=some (.cells #[a,y] T):=by
  simp only[World.setCell,Array.getElem?_modify,h,if_true,Option.map_some]
  rfl
 unfold set2
 simp only[World.setCell,Array.getElem?_modify] at h1 ⊢
 simp only[h1,if_true,Option.map_some]
 rfl
theorem fW(w:World)(g:Nat)(a b:Value):Aside (fun j=>j=g) w (set2 w g a b):=((Aside.refl (fun j=>j=g) w).setCell (p:=⟨g,0,none⟩) (.inl rfl) _).setCell (p:=⟨g,1,none⟩) (.inl rfl) _
theorem dm(w:World):(w.alloc (.cells #[.int .i64 0,.slice none 0 0] 84)).1[w.1.size]?=some (.cells #[.int .i64 0,.slice none 0 0] 84):=bu w _
section
variable {w w':World} {B g:Nat} {v v':Value} {d:Sp} {c:UInt8}
theorem Spl.lt(h:Spl w B g v d):g<w.1.size:=cZ h.lies
theorem Spl.apart(h:Spl w B g v d):v.ownBlock≠some g:=bv h.held h.lies (by decide)
theorem Spl.aside{F:Nat->Prop}(h:Spl w B g v d)(ha:Aside F w w')(hg:¬F g)(hv:∀k,v.ownBlock=some k->¬F k):Spl w' B g v d :=
 ⟨by rw[ha.block g h.lt hg];exact h.lies,h.held.aside ha hv,h.base⟩
theorem Spl.on(h:Spl w B g v d)(hb:Below w.1.size w w'):Spl w' B g v d:=h.aside (ag hb (fun _=>False)) (fun h=>h) (fun _ _ h=>h)
theorem Nxt.beside{w1:World}{F:Nat->Prop}(h:Nxt w w' B g v v' d c)(ha:Aside F w' w1)(hg:¬F g)(hv:∀k,v'.ownBlock=some k->¬F k)(hF:∀k,k<w.1.size->¬F k):Nxt w w1 B g v v' d c :=
 ⟨by rw[ha.block g (cZ h.lies) hg];exact h.lies,h.held.aside ha hv,h.aside.trans ha (fun i hi hc=>absurd hc (hF i hi)),h.own⟩
theorem Nxt.spl(h:Nxt w w' B g v v' d c)(hs:Spl w B g v d):Spl (w'.setCell ⟨g,0,none⟩ (.int .i64 ((d.n+1:Nat):Int))) B g v' (d.step c):=by
 refine⟨?_,?_,hs.base⟩
 ·refine jl h.lies 0 _ ?_
  rw[Sp.step_n]
  rfl
 ·exact h.held.aside ((Aside.refl (·=g) w').setCell (p:=⟨g,0,none⟩) (.inl rfl) _) (fun j hj hc=>bv h.held h.lies (by decide) (by rw[hj,hc]))
end
theorem Has.cut0{w:World}{B m cap:Nat}{q:OA}{l:L8}(h:Has w B (.slice q m cap) l):Has w B (.slice q 0 cap) []:=by
 refine⟨rfl,?_⟩
 rcases h.2 with ⟨h1,h0⟩ | ⟨g',cap',cur,h1,h2,h3,h4,h5,h6,h7⟩
 ·cases h1
  exact .inl ⟨rfl,rfl⟩
 ·cases h1
  exact .inr ⟨g',cap,cur,rfl,h2,h3,by simp,h5,h6,by simp[cellsOf]⟩
theorem fZ{w w1 w2:World}{B g:Nat}{m cap:Nat}{q:OA}{d:Sp}{c:UInt8}{op:Option Nat}(h:Spl w1 B g (.slice q m cap) d)(h1:Below w.1.size w w1)(h2:w2.1[g]?=some (.cells (bP d.n (opI op) (.slice q 0 cap) (cO g op)) 142))(h3:Aside (·=g) w1 w2)(hop:(d.step c).op=op)(hh:(d.step c).held=[]):Nxt w w2 B g (.slice q m cap) (.slice q 0 cap) d c:=by
 refine⟨by rw[hop];exact h2,?_,?_,fun i hi=>?_⟩
 ·rw[hh]
  exact(h.held.cut0).aside h3 (fun j hj hc=>h.apart (by rw[<-hc,<-hj];cases q <;> rfl))
 ·have:=(ag h1 (fun i=>i=g∨(Value.slice q m cap).ownBlock=some i)).trans h3 (fun i _ hc=>.inl hc)
  exact this
 ·left
  rw[<-hi]
  cases q <;> rfl
theorem iU{w w1:World}{B g N:Nat}{v v' x y:Value}{d:Sp}{c:UInt8}(h:Nxt w w1 B g v v' d c)(hN:w1.1[N]?=some (.cells #[x,y] 84))(hn:w.1.size<=N)(hg:g<w.1.size)(a b:Value):Nxt w (set2 w1 N a b) B g v v' d c :=
 h.beside (fW w1 N a b) (by omega) (fun k hk hc=>bv h.held hN (by decide) (by rw[hk,hc])) (fun k hk hc=>by omega)
theorem pX{w1:World}{Z g cap N:Nat}{l:L8}{x y:Value}(h:bh w1 Z g cap l)(hN:w1.1[N]?=some (.cells #[x,y] 84))(a b:Value):bh (set2 w1 N a b) Z g cap l :=
 Has.aside (v:=.slice (some ⟨g,0,none⟩) l.length cap) h (fW w1 N a b) (fun k hk hc=>bv (v:=.slice (some ⟨g,0,none⟩) l.length cap) h hN (by decide) (by rw[hk,hc]))
theorem xB(w:World)(B g:Nat)(v:Value)(d:Sp)(c:UInt8)(h:Spl w B g v d)(ho:d.op=none):Calls Tryz.prog 94 #[.pointer (some ⟨g,0,none⟩),.int .u8 (c.toNat:Int)] w fun e w'=>∃v' a u,e=.returned (.agg #[.int .i64 a,u])∧Nxt w w' B g v v' d c∧tU w' w.1.size v' (d.told c) a u:=by
 obtain⟨p,cap,hv,-,-⟩:=h.held.at
 subst hv
 obtain⟨W0,hW0⟩:∃W0,W0=w.alloc (.cells #[.int .i64 0,.slice none 0 0] 84):=⟨_,rfl⟩
 have hb:Below w.1.size w W0:=by rw[hW0];exact yY
 have hr:W0.1[w.1.size]?=some (.cells #[.int .i64 0,.slice none 0 0] 84):=by rw[hW0];exact dm w
 have h0:=h.on hb
 have HT:Hid (d.told c=[]):=Sp.told_none ho c
 have hlt:=h.lt
 have hgn:g≠w.1.size:=by omega
 have HS:=yQ h0
 have HB:=yQ hb
 by_cases hc:c=0
 ·have c0:W0.cell? ⟨g,0,none⟩=some (.int .i64 d.n):=bW h0.lies 0
  have HF:=yQ (iY g d.n d.held.length (opI d.op) p cap (cO g d.op) W0 (some d.n) h0.lies)
  simp only[opI] at HF
  have hc0:(c.toNat:Int)=0:=by rw[hc];rfl
  have HR:=yQ hr
  rw[hc0,hc]
  rw[hc] at HT
  clear h hc hb h0 hr hc0
  subst hW0
  go_enter Tryz.func94,Tryz.ntmps94
  go_wp2_with fail
  refine HF.out.mono ?_
  rintro e w1 ⟨rfl,hl1,ha1⟩
  have hr1:w1.1[w.1.size]?=some (.cells #[.int .i64 0,.slice none 0 0] 84):=by rw[ha1.block _ (cZ HR.out) (fun hc=>hgn hc.symm)];exact HR.out
  have HR1:=yQ hr1
  have HN:=yQ (fZ (c:=0) HS.out HB.out hl1 ha1 (Sp.fence_op d) (Sp.fence_held d))
  have x0:w1.cell? ⟨w.1.size,0,none⟩=some (.int .i64 0):=by simp[World.cell?,hr1]
  have x1:w1.cell? ⟨w.1.size,1,none⟩=some (.slice none 0 0):=by simp[World.cell?,hr1]
  have y0:w1.frozen? ⟨w.1.size,0,none⟩=false:=by simp[World.frozen?,hr1]
  have y1:w1.frozen? ⟨w.1.size,1,none⟩=false:=by simp[World.frozen?,hr1]
  clear hr1 hl1 ha1 HF
  go_wp2
  refine bodyPost_ret (v:=.agg #[.int .i64 0,.slice none 0 0]) (results_cell_row rfl _ _ w.1.size _ _ _ _ rfl (dK HR1.out _ _) Tryz.underlying84 rfl (by kernel_rfl)) rfl ?_
  exact⟨_,_,_,rfl,iU HN.out HR1.out yX hlt _ _,.inl ⟨HT.out,_,_,rfl⟩⟩
 ·have hb0:((c.toNat:Int)==0)=false:=by
   rw[beq_eq_false_iff_ne]
   intro hc2
   exact hc (UInt8.toNat_inj.1 (by simp;omega))
  have x0:W0.cell? ⟨w.1.size,0,none⟩=some (.int .i64 0):=by simp[World.cell?,hr]
  have x1:W0.cell? ⟨w.1.size,1,none⟩=some (.slice none 0 0):=by simp[World.cell?,hr]
  have y0:W0.frozen? ⟨w.1.size,0,none⟩=false:=by simp[World.frozen?,hr]
  have y1:W0.frozen? ⟨w.1.size,1,none⟩=false:=by simp[World.frozen?,hr]
  have h1:(d.step c).op=none:=Sp.step_op_none ho hc
  have HN:Hid (Nxt w W0 B g (.slice p d.held.length cap) (.slice p d.held.length cap) d c):=by
   refine⟨?_,?_,ag hb _,fun i hi=>.inl hi⟩
   ·rw[h1]
    have:=h0.lies
    rw[ho] at this
    exact this
   ·have:=h0.held
    rw[Sp.held_none h1]
    rw[Sp.held_none ho] at this ⊢
    exact this
  have HR:=yQ hr
  clear h hc hb h0 hr h1
  subst hW0
  go_enter Tryz.func94,Tryz.ntmps94
  go_wp2
  refine bodyPost_ret (v:=.agg #[.int .i64 0,.slice none 0 0]) (results_cell_row rfl _ _ w.1.size _ _ _ _ rfl HR.out Tryz.underlying84 rfl (by kernel_rfl)) rfl ?_
  exact⟨_,_,_,rfl,HN.out,.inl ⟨HT.out,_,_,rfl⟩⟩
end
section
open Go.RowKit
attribute [local go_sem] aV
structure Mid(w W:World)(B g N k:Nat)(v u:Value)(d:Sp):Prop where
 spl:Spl W B g v d
 has:Has W w.1.size u d.held
 var:W.1[N]?=some (.cells #[.int .i64 k,u] 84)
 res:W.1[w.1.size]?=some (.cells #[.int .i64 0,.slice none 0 0] 84)
 low:Below w.1.size w W
 far:w.1.size<N
theorem sM{w w1:World}{B g k n:Nat}{v u:Value}{d:Sp}{o:Obj}(ho:o=.cells #[.int .i64 0,.slice none 0 0] 84)(h:Spl (w.alloc o) B g v d)(hu:Has w1 n u d.held)(hn:n=(w.alloc o).1.size)(hb:Below (w.alloc o).1.size (w.alloc o) w1):Mid w (w1.alloc (.cells #[.int .i64 k,u] 84)) B g w1.1.size k v u d:=by
 have hb2:Below w1.1.size w1 (w1.alloc (.cells #[.int .i64 k,u] 84)):=yY
 have hsz:=hb.size
 simp at hsz
 refine⟨(h.on hb).on hb2,?_,bu _ _,?_,?_,by omega⟩
 ·exact(hu.low (by rw[hn];simp)).on hb2
 ·rw[hb2.block _ (by omega),hb.block _ (by simp),ho]
  exact dm w
 ·exact((Below.refl w.1.size w).alloc yX _).trans ((hb.mono (by simp)).trans (hb2.mono (by omega)))
theorem sL{w w1:World}{B g k n:Nat}{v u:Value}{d:Sp}{o:Obj}(ho:o=.cells #[.int .i64 0,.slice none 0 0] 84)(h:Spl (w.alloc o) B g v d)(hg:g<w.1.size)(hu:Has w1 n u d.held)(hn:n=((w.alloc o).alloc o).1.size)(hb:Below ((w.alloc o).alloc o).1.size ((w.alloc o).alloc o) w1):Mid w (set2 w1 (w.1.size+1) (.int .i64 k) u) B g (w.1.size+1) k v u d:=by
 have hb0:Below (w.alloc o).1.size (w.alloc o) ((w.alloc o).alloc o):=yY
 have hsz:=hb.size
 simp at hsz
 have hx:w1.1[w.1.size+1]?=some (.cells #[.int .i64 0,.slice none 0 0] 84):=by
  rw[hb.block _ (by simp),ho]
  have:=dm (w.alloc o)
  simpa[ho] using this
 have ha:=fW w1 (w.1.size+1) (.int .i64 k) u
 have h1:=(h.on hb0).on hb
 refine⟨h1.aside ha (by omega) (fun j hj hc=>bv h1.held hx (by decide) (by rw[hj,hc])),?_,dK hx _ _,?_,?_,by omega⟩
 ·have:=hu.low (B':=w.1.size) (by rw[hn];simp;omega)
  exact this.aside ha (fun j hj hc=>bv this hx (by decide) (by rw[hj,hc]))
 ·rw[ha.block _ (by omega) (by omega),hb.block _ (by simp;omega),hb0.block _ (by simp),ho]
  exact dm w
 ·have h2:Below w.1.size w w1:=((Below.refl w.1.size w).alloc yX _).trans ((hb0.mono (by simp)).trans (hb.mono (by simp;omega)))
  exact h2.trans (ha.below (by omega) (fun j hj=>by omega))
theorem ou(w:World)(B g:Nat)(v:Value)(d:Sp)(k:Nat)(h:Spl w B g v d)(hk:d.op=some k):Calls Tryz.prog 93 #[.pointer (some ⟨g,0,none⟩),.int .u8 0] w fun e w'=>∃v' a u,e=.returned (.agg #[.int .i64 a,u])∧Nxt w w' B g v v' d 0∧tU w' w.1.size v' (d.told 0) a u:=by
  obtain⟨p,cap,hv,-,-⟩:=h.held.at
  subst hv
  obtain⟨W0,hW0⟩:∃W0,W0=w.alloc (.cells #[.int .i64 0,.slice none 0 0] 84):=⟨_,rfl⟩
  have hb:Below w.1.size w W0:=by rw[hW0];exact yY
  have hr:W0.1[w.1.size]?=some (.cells #[.int .i64 0,.slice none 0 0] 84):=by rw[hW0];exact dm w
  have h0:=h.on hb
  have hlt:=h.lt
  have hgn:g≠w.1.size:=by omega
  have HS:=yQ h0
  have HB:=yQ hb
  have c0:W0.cell? ⟨g,0,none⟩=some (.int .i64 d.n):=bW h0.lies 0
  have c1:W0.cell? ⟨g,1,none⟩=some (.int .i64 k):=by have:=bW h0.lies 1;rw[hk] at this;exact this
  have c2:W0.cell? ⟨g,2,none⟩=some (.slice p d.held.length cap):=bW h0.lies 2
  have HR:=yQ hr
  obtain⟨W1,hW1⟩:∃W1,W1=W0.alloc (.cells #[.int .i64 0,.slice none 0 0] 84):=⟨_,rfl⟩
  have hb1:Below W0.1.size W0 W1:=by rw[hW1];exact yY
  have h1:=h0.on hb1
  have d1:W1.cell? ⟨g,1,none⟩=some (.int .i64 k):=by have:=bW h1.lies 1;rw[hk] at this;exact this
  have d2:W1.cell? ⟨g,2,none⟩=some (.slice p d.held.length cap):=bW h1.lies 2
  have HC:Hid (∀W,Below W0.1.size W0 W->Calls Tryz.prog 133 #[.slice p d.held.length cap] W fun e w'=>∃q cap,e=.returned (.slice q d.held.length cap)∧Has w' W.1.size (.slice q d.held.length cap) d.held∧Below W.1.size W w'):=by
    intro W hW
    obtain⟨p',c',he,hA,-⟩:=h0.held.at
    injection he with e1
    subst e1
    exact tv p cap d.held (by have:=d.held_le;omega) W (hA.on hW)
  have hgn1:¬w.1.size+1=g:=by omega
  have hgn2:¬w.1.size=g:=by omega
  have HX:Hid (W1.1[w.1.size+1]?=some (.cells #[.int .i64 0,.slice none 0 0] 84)):=by
    show _=_
    rw[hW1]
    have:=dm W0
    rw[hW0] at this ⊢
    simpa using this
  have HOwn:=yQ (fun j (hj:(Value.slice p d.held.length cap).ownBlock=some j)=>(h.held.lt j hj).2)
  clear h hb h0 hr h1
  subst hW1
  subst hW0
  go_enter Tryz.func93,Tryz.ntmps93
  go_wp2_with fail
  go_region_held3 (fun w'=>w'.cell? ⟨g,1,none⟩=some (.int .i64 k)∧w'.cell? ⟨g,2,none⟩=some (.slice p d.held.length cap)) (first | go_keep | exact⟨by assumption,by assumption⟩ | (refine⟨?_,?_⟩ <;> first | assumption | (simp;assumption)))
    (first
     | (go_at_call 133
        refine(HC.out _ (by first | exact yZ | exact yZ.drew)).mono ?_
        rintro e w1 ⟨q,cq,rfl,hh,hb2⟩
        have a1:w1.cell? ⟨g,1,none⟩=some (.int .i64 k):=by rw[hb2.cell (p:=⟨g,1,none⟩) (by simp;omega)];exact c1
        have a2:w1.cell? ⟨g,2,none⟩=some (.slice p d.held.length cap):=by rw[hb2.cell (p:=⟨g,2,none⟩) (by simp;omega)];exact c2
        have hg1:¬w1.1.size=g:=by have:=hb2.size;simp at this;omega
        have HH:=yQ hh
        have HB2:=yQ hb2
        clear hh hb2)
     | (go_at_call 133
        refine(HC.out _ (by first | exact hb1 | exact hb1.drew)).mono ?_
        rintro e w1 ⟨q,cq,rfl,hh,hb2⟩
        have a1:w1.cell? ⟨g,1,none⟩=some (.int .i64 k):=by rw[hb2.cell (p:=⟨g,1,none⟩) (by simp;omega)];exact d1
        have a2:w1.cell? ⟨g,2,none⟩=some (.slice p d.held.length cap):=by rw[hb2.cell (p:=⟨g,2,none⟩) (by simp;omega)];exact d2
        have hx:w1.1[w.1.size+1]?=some (.cells #[.int .i64 0,.slice none 0 0] 84):=(hb2.block (w.1.size+1) (by simp)).trans HX.out
        have x0:w1.cell? ⟨w.1.size+1,0,none⟩=some (.int .i64 0):=by simp[World.cell?,hx]
        have x1:w1.cell? ⟨w.1.size+1,1,none⟩=some (.slice none 0 0):=by simp[World.cell?,hx]
        have y0:w1.frozen? ⟨w.1.size+1,0,none⟩=false:=by simp[World.frozen?,hx]
        have y1:w1.frozen? ⟨w.1.size+1,1,none⟩=false:=by simp[World.frozen?,hx]
        have HX1:=yQ hx
        clear hx
        have HH:=yQ hh
        have HB2:=yQ hb2
        clear hh hb2))
  case' refine_2.refine_3.refine_3.refine_3.refine_3.refine_3.refine_3.refine_3.refine_3.refine_1.refine_2.refine_3.refine_1.refine_2.refine_1.refine_2=>
    have HM:=yQ (sM (k:=k) rfl HS.out HH.out rfl ⟨HB2.out.os,HB2.out.tape,HB2.out.output,HB2.out.size,HB2.out.block⟩)
    generalize w1.alloc (.cells #[.int .i64 k,.slice q d.held.length cq] 84)=W2 at HM ⊢
    generalize w1.1.size=N2 at HM ⊢
  case' refine_2.refine_3.refine_3.refine_3.refine_3.refine_3.refine_3.refine_3.refine_3.refine_2.refine_1.refine_2.refine_1.refine_2.refine_3.refine_1.refine_2=>
    have HM:=yQ (sL (k:=k) rfl HS.out hlt HH.out rfl ⟨HB2.out.os,HB2.out.tape,HB2.out.output,HB2.out.size,HB2.out.block⟩)
    unfold set2 at HM
    generalize (w1.setCell ⟨w.1.size+1,0,none⟩ (.int .i64 k)).setCell ⟨w.1.size+1,1,none⟩ (.slice q d.held.length cq)=W2 at HM ⊢
    generalize w.1.size+1=N2 at HM ⊢
  all_goals
    clear c0 c1 c2 d1 d2 a1 a2 HX HC HR HB hb1
    have b0:W2.cell? ⟨g,0,none⟩=some (.int .i64 d.n):=bW HM.out.spl.lies 0
    have HF:=yQ (iY g d.n d.held.length (opI d.op) p cap (cO g d.op) W2 (some d.n) HM.out.spl.lies)
    simp only[opI] at HF
    go_wp2_with fail
    refine HF.out.mono ?_
    rintro e W3 ⟨rfl,hl3,ha3⟩
    have hv3:W3.1[N2]?=some (.cells #[.int .i64 k,.slice q d.held.length cq] 84):=by
      rw[ha3.block _ (cZ HM.out.var) (by have:=HM.out.far;omega)]
      exact HM.out.var
    have hr3:W3.1[w.1.size]?=some (.cells #[.int .i64 0,.slice none 0 0] 84):=by
      rw[ha3.block _ (cZ HM.out.res) (by omega)]
      exact HM.out.res
    have z0:W3.cell? ⟨N2,0,none⟩=some (.int .i64 k):=by simp[World.cell?,hv3]
    have z1:W3.cell? ⟨N2,1,none⟩=some (.slice q d.held.length cq):=by simp[World.cell?,hv3]
    have x0:W3.cell? ⟨w.1.size,0,none⟩=some (.int .i64 0):=by simp[World.cell?,hr3]
    have x1:W3.cell? ⟨w.1.size,1,none⟩=some (.slice none 0 0):=by simp[World.cell?,hr3]
    have y0:W3.frozen? ⟨w.1.size,0,none⟩=false:=by simp[World.frozen?,hr3]
    have y1:W3.frozen? ⟨w.1.size,1,none⟩=false:=by simp[World.frozen?,hr3]
    have HN:=yQ (fZ (c:=0) HM.out.spl HM.out.low hl3 ha3 (Sp.fence_op d) (Sp.fence_held d))
    have HH3:=yQ (HM.out.has.aside ha3 (fun j hj hc=>bv HM.out.has HM.out.spl.lies (by decide) (by rw[hj,hc])))
    have HR3:=yQ hr3
    clear hv3 hr3 hl3 ha3 HF b0 HM
    go_wp2
    refine bodyPost_ret (v:=.agg #[.int .i64 k,.slice q d.held.length cq]) (results_cell_row rfl _ _ w.1.size _ _ _ _ rfl (dK HR3.out _ _) Tryz.underlying84 rfl (by kernel_rfl)) rfl ?_
    refine⟨_,_,_,rfl,iU HN.out HR3.out yX hlt _ _,?_⟩
    rw[Sp.told_some hk]
    by_cases hh:d.held=[]
    · rw[if_pos hh]
      exact .inl ⟨rfl,q,cq,by rw[hh];rfl⟩
    · rw[if_neg hh]
      rcases HH3.out.form with ⟨_,h2⟩ | ⟨g2,c2,he,hm⟩
      · exact absurd h2 hh
      · injection he with e1 _ e2
        subst e1 e2
        refine .inr ⟨k,d.held,g2,cq,rfl,hh,rfl,rfl,pX hm HR3.out _ _,fun hc=>?_⟩
        have h3:=hm.base.1
        have h4:=HOwn.out g2 (by rw[<-hc];cases p <;> rfl)
        omega
theorem qM(w:World)(B g:Nat)(v:Value)(d:Sp)(k:Nat)(c:UInt8)(h:Spl w B g v d)(hk:d.op=some k)(hc:c≠0)(hf:d.held.length=2200):Calls Tryz.prog 93 #[.pointer (some ⟨g,0,none⟩),.int .u8 (c.toNat:Int)] w fun e w'=>∃v' a u,e=.returned (.agg #[.int .i64 a,u])∧Nxt w w' B g v v' d c∧tU w' w.1.size v' (d.told c) a u:=by
 obtain⟨p,cap,hv,-,-⟩:=h.held.at
 subst hv
 have HT:Hid (d.told c=[]):=Sp.told_else hc
 have HO:Hid ((d.step c).op=none):=Sp.step_op_full hk hc hf
 have hb0:((c.toNat:Int)==0)=false:=by
  rw[beq_eq_false_iff_ne]
  intro hc2
  exact hc (UInt8.toNat_inj.1 (by simp;omega))
 rw[hf] at h ⊢
 obtain⟨W0,hW0⟩:∃W0,W0=w.alloc (.cells #[.int .i64 0,.slice none 0 0] 84):=⟨_,rfl⟩
 have hb:Below w.1.size w W0:=by rw[hW0];exact yY
 have hr:W0.1[w.1.size]?=some (.cells #[.int .i64 0,.slice none 0 0] 84):=by rw[hW0];exact dm w
 have h0:=h.on hb
 have hlt:=h.lt
 have hgn:g≠w.1.size:=by omega
 have HS:=yQ h0
 have HB:=yQ hb
 have c2:W0.cell? ⟨g,2,none⟩=some (.slice p 2200 cap):=bW h0.lies 2
 have HF:=yQ (iY g d.n 2200 (opI d.op) p cap (cO g d.op) W0 none h0.lies)
 simp only[opI] at HF
 have HR:=yQ hr
 clear h hb h0 hr hc hf
 subst hW0
 go_enter Tryz.func93,Tryz.ntmps93
 go_wp2_with fail
 refine HF.out.mono ?_
 rintro e w1 ⟨rfl,hl1,ha1⟩
 have hr1:w1.1[w.1.size]?=some (.cells #[.int .i64 0,.slice none 0 0] 84):=by rw[ha1.block _ (cZ HR.out) (fun hc=>hgn hc.symm)];exact HR.out
 have HR1:=yQ hr1
 have HN:=yQ (fZ (c:=c) HS.out HB.out hl1 ha1 HO.out (Sp.held_none HO.out))
 have x0:w1.cell? ⟨w.1.size,0,none⟩=some (.int .i64 0):=by simp[World.cell?,hr1]
 have x1:w1.cell? ⟨w.1.size,1,none⟩=some (.slice none 0 0):=by simp[World.cell?,hr1]
 have y0:w1.frozen? ⟨w.1.size,0,none⟩=false:=by simp[World.frozen?,hr1]
 have y1:w1.frozen? ⟨w.1.size,1,none⟩=false:=by simp[World.frozen?,hr1]
 clear hr1 hl1 ha1 HF
 go_wp2
 refine bodyPost_ret (v:=.agg #[.int .i64 0,.slice none 0 0]) (results_cell_row rfl _ _ w.1.size _ _ _ _ rfl (dK HR1.out _ _) Tryz.underlying84 rfl (by kernel_rfl)) rfl ?_
 exact⟨_,_,_,rfl,iU HN.out HR1.out yX hlt _ _,.inl ⟨HT.out,_,_,rfl⟩⟩
theorem sK{w W1 W:World}{B g k:Nat}{m cap:Nat}{p q:OA}{cq:Nat}{ys:L8}{d:Sp}{c:UInt8}(hb:Below w.1.size w W1)(hl:W.1[g]?=some (.cells (bP d.n (opI d.op) (.slice p m cap) (cO g d.op)) 142))(hH:Has W B (.slice q ys.length cq) ys)(ha:Aside (fun k=>(Value.slice p m cap).ownBlock=some k) W1 W)(ho:∀k,(Value.slice q ys.length cq).ownBlock=some k->(Value.slice p m cap).ownBlock=some k∨W1.1.size<=k)(hy:ys=d.held++[c])(hk:d.op=some k)(h1:(d.step c).op=some k)(h2:(d.step c).held=d.held++[c]):
  Nxt w (W.setCell ⟨g,2,none⟩ (.slice q ys.length cq)) B g (.slice p m cap) (.slice q ys.length cq) d c:=by
 have hs:=hb.size
 refine⟨?_,?_,?_,fun i hi=>?_⟩
 ·rw[h1]
  rw[hk] at hl
  exact jl hl 2 _ rfl
 ·rw[h2,<-hy]
  exact hH.aside ((Aside.refl (·=g) W).setCell (p:=⟨g,2,none⟩) (.inl rfl) _) (fun j hj hc=>bv hH hl (by decide) (by rw[hj,hc]))
 ·have e1:Aside (fun i=>i=g∨(Value.slice p m cap).ownBlock=some i) w W:=(ag hb _).trans ha (fun i _ hc=>.inr hc)
  exact e1.setCell (p:=⟨g,2,none⟩) (.inl (.inl rfl)) _
 ·rcases ho i hi with h3 | h3
  ·exact .inl h3
  ·exact .inr (by omega)
theorem qL(w:World)(B g:Nat)(v:Value)(d:Sp)(k:Nat)(c:UInt8)(h:Spl w B g v d)(hk:d.op=some k)(hc:c≠0)(hf:d.held.length≠2200):Calls Tryz.prog 93 #[.pointer (some ⟨g,0,none⟩),.int .u8 (c.toNat:Int)] w fun e w'=>∃v' a u,e=.returned (.agg #[.int .i64 a,u])∧Nxt w w' B g v v' d c∧tU w' w.1.size v' (d.told c) a u:=by
  obtain⟨p,cap,hv,-,-⟩:=h.held.at
  subst hv
  have HT:Hid (d.told c=[]):=Sp.told_else hc
  have HO:=yQ (Sp.step_op_some hk hc hf)
  have hb0:((c.toNat:Int)==0)=false:=by
    rw[beq_eq_false_iff_ne]
    intro hc2
    exact hc (UInt8.toNat_inj.1 (by simp;omega))
  have hb1:((d.held.length:Int)==2200)=false:=by
    rw[beq_eq_false_iff_ne]
    omega
  have hle:=d.held_le
  obtain⟨W0,hW0⟩:∃W0,W0=w.alloc (.cells #[.int .i64 0,.slice none 0 0] 84):=⟨_,rfl⟩
  have hb:Below w.1.size w W0:=by rw[hW0];exact yY
  have hr:W0.1[w.1.size]?=some (.cells #[.int .i64 0,.slice none 0 0] 84):=by rw[hW0];exact dm w
  have h0:=h.on hb
  have hlt:=h.lt
  have hgn:g≠w.1.size:=by omega
  have HS:=yQ h0
  have HB:=yQ hb
  have c2:W0.cell? ⟨g,2,none⟩=some (.slice p d.held.length cap):=bW h0.lies 2
  have hb2:Below W0.1.size W0 (W0.alloc (.cells #[.int .u8 (c.toNat:Int)] 5)):=yY
  have HS1:=yQ (h0.on hb2)
  have HA1:Hid (At (W0.alloc (.cells #[.int .u8 (c.toNat:Int)] 5)) (some ⟨w.1.size+1,0,none⟩) [c]):=by
    have e:W0.1.size=w.1.size+1:=by rw[hW0];simp
    have:=(Own.at (w:=W0.alloc (.cells #[.int .u8 (c.toNat:Int)] 5)) (b:=W0.1.size) (l:=[c]) ⟨#[],bu W0 _⟩)
    rw[e] at this
    exact this
  have HB1:=yQ (hb.trans (hb2.mono hb.size))
  have HR1:=yQ (iX hr hb2)
  have hv0:=h.held.lt
  have HV0:Hid (∀j,(Value.slice p d.held.length cap).ownBlock=some j->j<w.1.size):=fun j hj=>(hv0 j hj).2
  have hbs:B<=w.1.size:=by have:=h.base;omega
  clear h hb h0 hr hc hf hb2 hv0 HS HB
  subst hW0
  go_enter Tryz.func93,Tryz.ntmps93
  go_wp2_with (at_builtin
               refine aA HS1.out.held HA1.out (by simp;omega) (by simp;omega) rfl rfl rfl rfl rfl ?_
               intro ys q cq W HY hH ha ho
               have hg':=HS1.out.apart
               have hl:W.1[g]?=_:=(ha.block g HS1.out.lt hg').trans HS1.out.lies
               have hr1:W.1[w.1.size]?=_:=(ha.block w.1.size (cZ HR1.out) (fun hc=>by have:=HV0.out _ hc;omega)).trans HR1.out
               have m2:W.cell? ⟨g,2,none⟩=some (.slice p d.held.length cap):=bW hl 2
               have f2:=fY hl 2
               have n2:¬g=w.1.size:=hgn
               have x0:W.cell? ⟨w.1.size,0,none⟩=some (.int .i64 0):=by simp[World.cell?,hr1]
               have x1:W.cell? ⟨w.1.size,1,none⟩=some (.slice none 0 0):=by simp[World.cell?,hr1]
               have y0:W.frozen? ⟨w.1.size,0,none⟩=false:=by simp[World.frozen?,hr1]
               have y1:W.frozen? ⟨w.1.size,1,none⟩=false:=by simp[World.frozen?,hr1]
               have HL:=yQ hl
               have HRW:=yQ hr1
               have HHW:=yQ hH
               have HAW:=yQ ha
               have HOW:=yQ ho
               clear hl hr1 hH ha ho hg')
  have HK:=yQ (sK (c:=c) HB1.out HL.out HHW.out HAW.out HOW.out HY.out hk HO.out.1 HO.out.2)
  have hr2:(W.setCell ⟨g,2,none⟩ (.slice q ys.length cq)).1[w.1.size]?=some (.cells #[.int .i64 0,.slice none 0 0] 84):=by
    rw[Below.heap_setCell _ _ _ _ (fun hc=>n2 hc.symm)]
    exact HRW.out
  refine bodyPost_ret (v:=.agg #[.int .i64 0,.slice none 0 0]) (results_cell_row rfl _ _ w.1.size _ _ _ _ rfl (dK hr2 _ _) Tryz.underlying84 rfl (by kernel_rfl)) rfl ?_
  exact⟨_,_,_,rfl,iU HK.out hr2 yX hlt _ _,.inl ⟨HT.out,_,_,rfl⟩⟩
theorem xU(w:World)(B g:Nat)(v:Value)(d:Sp)(k:Nat)(c:UInt8)(h:Spl w B g v d)(hk:d.op=some k):Calls Tryz.prog 93 #[.pointer (some ⟨g,0,none⟩),.int .u8 (c.toNat:Int)] w fun e w'=>∃v' a u,e=.returned (.agg #[.int .i64 a,u])∧Nxt w w' B g v v' d c∧tU w' w.1.size v' (d.told c) a u:=by
 by_cases hc:c=0
 ·subst hc
  exact ou w B g v d k h hk
 ·by_cases hf:d.held.length=2200
  ·exact qM w B g v d k c h hk hc hf
  ·exact qL w B g v d k c h hk hc hf
end
section
open Go.RowKit
attribute [local go_sem] aV
theorem uM:(Tryz.prog.info? 84).map (fun i=>(i.zero,i.size,i.bytes))=some (some (.agg #[.int .i64 0,.slice none 0 0]),2,32):=by kernel_rfl
structure bD(w:World)(B:Nat)(v:Value)(bs:List Nat)(rs:List Run):Prop where
 out:∃us:List Value,w.ownsRow B 84 2 v rs.length us∧bs.length=rs.length∧∀j (hj:j<rs.length),∃g cap,bs[j]?=some g∧us[j*2]?=some (.int .i64 rs[j].1)∧us[j*2+1]?=some (.slice (some ⟨g,0,none⟩) rs[j].2.length cap)∧bh w B g cap rs[j].2
theorem p6(w:World)(B:Nat):bD w B (.slice none 0 0) [] []:=⟨[],⟨rfl,.inl ⟨rfl,rfl⟩⟩,rfl,fun j hj=>by simp at hj⟩
section
variable {w w':World} {B:Nat} {v:Value} {bs:List Nat} {rs:List Run}
theorem bD.lt(h:bD w B v bs rs):∀k,v.ownBlock=some k->B<=k∧k<w.1.size:=by
 obtain⟨us,h1,_⟩:=h.out
 exact World.ownsRow.lt h1
theorem bD.mem(h:bD w B v bs rs):∀k∈bs,B<=k∧k<w.1.size:=by
 obtain⟨us,h1,hl,h2⟩:=h.out
 intro k hk
 obtain⟨j,hj,rfl⟩:=List.mem_iff_getElem.1 hk
 obtain⟨g,cap,e1,_,_,hm⟩:=h2 j (by omega)
 rw[List.getElem?_eq_getElem hj] at e1
 injection e1 with e1
 rw[e1]
 exact⟨hm.base.1,hm.base.2.1⟩
theorem f5{F:Nat->Prop}{g cap:Nat}{l:L8}(h:bh w B g cap l)(ha:Aside F w w')(hF:¬F g):bh w' B g cap l :=
 Has.aside (v:=.slice (some ⟨g,0,none⟩) l.length cap) h ha (fun k hk hc=>by simp only[Value.ownBlock,Option.some.injEq] at hk;subst hk;exact hF hc)
theorem mN{B' g cap:Nat}{l:L8}(h:bh w B g cap l)(hB:B'<=B):bh w B' g cap l:=Has.low (v:=.slice (some ⟨g,0,none⟩) l.length cap) h hB
theorem bD.aside{F:Nat->Prop}(h:bD w B v bs rs)(ha:Aside F w w')(hv:∀k,v.ownBlock=some k->¬F k)(hF:∀k∈bs,¬F k):bD w' B v bs rs:=by
 obtain⟨us,h1,hl,h2⟩:=h.out
 refine⟨us,⟨h1.1,?_⟩,hl,fun j hj=>?_⟩
 ·rcases h1.2 with h3 | ⟨g,cap,cur,rfl,h4,h5,h6⟩
  ·exact .inl h3
  ·exact .inr ⟨g,cap,cur,rfl,h4,by rw[ha.block g (cZ h5) (hv g rfl)];exact h5,h6⟩
 ·obtain⟨g,cap,e1,e2,e3,hm⟩:=h2 j hj
  exact⟨g,cap,e1,e2,e3,f5 hm ha (hF g (List.mem_of_getElem? e1))⟩
theorem bD.on(h:bD w B v bs rs)(hb:Below w.1.size w w'):bD w' B v bs rs:=h.aside (ag hb (fun _=>False)) (fun _ _ hc=>hc) (fun _ _ hc=>hc)
theorem bD.form(h:bD w B v bs rs):∃q c,v=.slice q rs.length c∧rs.length<=c:=by
 obtain⟨us,h1,h2⟩:=h.out
 rcases h1.2 with ⟨rfl,h3⟩ | ⟨g,cap,cur,rfl,_,_,h4,_⟩
 ·exact⟨none,0,by rw[h3],by omega⟩
 ·exact⟨_,_,rfl,h4⟩
end
theorem bD.apart{w:World}{B g:Nat}{v:Value}{bs:List Nat}{rs:List Run}(h:bD w B v bs rs){C:AV}{T:TypeId}(hg:w.1[g]?=some (.cells C T))(hT:T≠84):v.ownBlock≠some g:=by
 intro hc
 obtain⟨us,h1,-⟩:=h.out
 rcases h1.2 with ⟨h1,_⟩ | ⟨g',cap,cur,h1,_,h3,_⟩
 ·rw[h1] at hc;cases hc
 ·rw[h1] at hc
  simp only[Value.ownBlock,Option.some.injEq] at hc
  subst hc
  rw[h3] at hg
  injection hg with h4
  injection h4 with _ h5
  exact hT h5.symm
theorem eO{w:World}{B g cap:Nat}{l:L8}(h:bh w B g cap l):∃C,w.1[g]?=some (.cells C 5):=by
 rcases h.2 with ⟨h1,_⟩ | ⟨g',cap',cur,h1,_,h3,_⟩
 ·cases h1
 ·cases h1
  exact⟨cur,h3⟩
theorem ey{w:World}{B g:Nat}{v:Value}{l:L8}(h:Has w B v l)(hv:v.ownBlock=some g):∃C,w.1[g]?=some (.cells C 5):=by
 rcases h.2 with ⟨h1,_⟩ | ⟨g',cap',cur,h1,_,h3,_⟩
 ·rw[h1] at hv;cases hv
 ·rw[h1] at hv
  simp only[Value.ownBlock,Option.some.injEq] at hv
  subst hv
  exact⟨cur,h3⟩
theorem bD.block{w:World}{B:Nat}{v:Value}{bs:List Nat}{rs:List Run}(h:bD w B v bs rs):∀k∈bs,∃C,w.1[k]?=some (.cells C 5):=by
 obtain⟨us,h1,hl,h2⟩:=h.out
 intro k hk
 obtain⟨j,hj,rfl⟩:=List.mem_iff_getElem.1 hk
 obtain⟨g,cap,e1,_,_,hm⟩:=h2 j (by omega)
 rw[List.getElem?_eq_getElem hj] at e1
 injection e1 with e1
 rw[e1]
 exact eO hm
theorem rK{w:World}{B ad H:Nat}{v:Value}{bs:List Nat}{rs:List Run}(hr:bD w B v bs rs)(k:Nat)(ls:L8)(g2 c2:Nat)(hm:bh w B g2 c2 ls)(hblk:w.1[ad]?=some (.cells #[.int .i64 k,.slice (some ⟨g2,0,none⟩) ls.length c2] 84 (0,0)))(hn:rs.length<=1000000000)(hB:B<=w.1.size)(hH:w.1.size=H){ops:Array Oper}{rest:List Oper}{o:Oper}{a:Act}{Q:Exit->Act->World->Prop}{y x:Operand}(hg:o.guard=none)(hop:o.op=Op.call { callee:=Callee.builtin Builtin.append,args:=#[y,x],argTypes:=#[81,81] })(hs:a.eval y=v)(hx:a.eval x=.slice (some ⟨ad,0,none⟩) 1 1)(hK:∀g cap w',bD w' B (.slice (some ⟨g,0,none⟩) (rs.length+1) cap) (bs++[g2]) (rs++[(k,ls)])->Aside (fun j=>v.ownBlock=some j) w w'->(v.ownBlock=some g∨g=H)->wpList Tryz.prog ops Q rest (a.put o.dst (.slice (some ⟨g,0,none⟩) (rs.length+1) cap)) w'):
  wpList Tryz.prog ops Q (o::rest) a w:=by
 obtain⟨i,hi,hz,hsz,hby⟩:=info_parts uM
 obtain⟨us,h1,hl,h2⟩:=hr.out
 refine wpList_append_lies w hg y x 81 hop B 84 i (.agg #[.int .i64 0,.slice none 0 0]) 2 32 Tryz.underlying81 hi hz hsz hby rfl (by decide) v rs.length us hs h1 ⟨ad,0,none⟩ 1 1 _ hx (by simp)
  (World.news_of_block hblk) (by intro a ha;simp at ha;rcases ha with rfl | rfl <;> rfl) (by decide) (by unfold maxLen;omega) (by omega) hB H hH fun g cap w' h3 h4 h5 _=>?_
 have ha:=bB h4
 have hul:us.length=rs.length*2:=h1.1
 refine hK g cap w' ⟨us++[.int .i64 k,.slice (some ⟨g2,0,none⟩) ls.length c2],?_,by simp[hl],fun j hj=>?_⟩ ha h5
 ·rw[List.length_append,List.length_singleton]
  simpa using h3
 ·by_cases hje:j<rs.length
  ·obtain⟨g',cap',e1,e2,e3,e4⟩:=h2 j hje
   refine⟨g',cap',?_,?_,?_,?_⟩
   ·rw[List.getElem?_append_left (by omega)];exact e1
   ·rw[List.getElem?_append_left (by omega),e2,List.getElem_append_left hje]
   ·rw[List.getElem?_append_left (by omega),e3,List.getElem_append_left hje]
   ·rw[List.getElem_append_left hje]
    obtain⟨C,hC⟩:=eO e4
    exact f5 e4 ha (fun hc=>hr.apart hC (by decide) hc)
  ·have hj2:j=rs.length:=by rw[List.length_append,List.length_singleton] at hj;omega
   subst hj2
   obtain⟨C,hC⟩:=eO hm
   refine⟨g2,c2,?_,?_,?_,?_⟩
   ·rw[List.getElem?_append_right (by omega),hl];simp
   ·rw[List.getElem?_append_right (by omega),hul];simp
   ·rw[List.getElem?_append_right (by omega),hul,show rs.length*2+1-rs.length*2=1 by omega];simp
   ·simp only[List.getElem_append_right yX,Nat.sub_self,List.getElem_cons_zero]
    exact f5 hm ha (fun hc=>hr.apart hC (by decide) hc)
structure FI(w wr:World)(B g:Nat)(v rv v':Value)(bs:List Nat)(d:Sp)(m:L8):Prop where
 spl:Spl wr B g v' (d.run m)
 runs:bD wr w.1.size rv bs (d.tolds m)
 aside:Aside (fun i=>i=g∨v.ownBlock=some i) w wr
 own:∀k,v'.ownBlock=some k->v.ownBlock=some k∨w.1.size<=k
 off:∀k∈bs,v'.ownBlock≠some k
section
variable {w wr w1 w2:World} {B g:Nat} {v rv v' v2:Value} {bs:List Nat} {d:Sp} {m:L8} {c:UInt8}
theorem FI.keeps(h:FI w wr B g v rv v' bs d m)(hn:Nxt wr w1 B g v' v2 (d.run m) c)(hb:Below w1.1.size w1 w2):bD w2 w.1.size rv bs (d.tolds m)∧(∀k∈bs,v2.ownBlock≠some k):=by
 constructor
 ·refine(h.runs.aside hn.aside (fun k hk hc=>?_) (fun k hk hc=>?_)).on hb
  ·rcases hc with hc | hc
   ·subst hc
    exact h.runs.apart h.spl.lies (by decide) hk
   ·obtain⟨C,hC⟩:=ey h.spl.held hc
    exact h.runs.apart hC (by decide) hk
  ·rcases hc with hc | hc
   ·subst hc
    obtain⟨C,hC⟩:=h.runs.block k hk
    rw[h.spl.lies] at hC
    injection hC with hC
    injection hC with _ hC
    exact absurd hC (by decide)
   ·exact h.off k hk hc
 ·intro k hk hc
  rcases hn.own k hc with h1 | h1
  ·exact h.off k hk h1
  ·have:=(h.runs.mem k hk).2
   omega
theorem Nxt.later(hn:Nxt wr w1 B g v' v2 d c)(hb:Below w1.1.size w1 w2):Nxt wr w2 B g v' v2 d c:=hn.beside (F:=fun _=>False) (ag hb _) (fun h=>h) (fun _ _ h=>h) (fun _ _ h=>h)
theorem qX(h:FI w wr B g v rv v' bs d m)(hn:Nxt wr w1 B g v' v2 (d.run m) c)(ht:(d.run m).told c=[])(hb:Below w1.1.size w1 w2)(n:Nat)(hN:n=(d.run m).n+1):FI w (w2.setCell ⟨g,0,none⟩ (.int .i64 (n:Int))) B g v rv v2 bs d (m++[c]):=by
 subst hN
 have hn2:=hn.later hb
 obtain⟨k1,k2⟩:=h.keeps hn hb
 have hs:=h.aside.size
 have hset:Aside (·=g) w2 (w2.setCell ⟨g,0,none⟩ (.int .i64 (((d.run m).n+1:Nat):Int))):=(Aside.refl (·=g) w2).setCell (p:=⟨g,0,none⟩) (.inl rfl) _
 refine⟨?_,?_,?_,?_,k2⟩
 ·rw[Sp.run_snoc]
  exact hn2.spl h.spl
 ·rw[Sp.tolds_snoc,ht,List.append_nil]
  refine k1.aside hset (fun k hk hc=>?_) (fun k hk hc=>?_)
  ·subst hc
   exact k1.apart hn2.lies (by decide) hk
  ·subst hc
   obtain⟨C,hC⟩:=k1.block k hk
   rw[hn2.lies] at hC
   injection hC with hC
   injection hC with _ hC
   exact absurd hC (by decide)
 ·refine(h.aside.trans hn2.aside (fun i hi hc=>?_)).setCell (p:=⟨g,0,none⟩) (.inl (.inl rfl)) _
  rcases hc with hc | hc
  ·exact .inl hc
  ·rcases h.own i hc with h1 | h1
   ·exact .inr h1
   ·omega
 ·intro k hk
  rcases hn.own k hk with h1 | h1
  ·exact h.own k h1
  ·exact .inr (by omega)
theorem qW{W:World}{rv2:Value}{g2 k:Nat}{ls:L8}(h:FI w wr B g v rv v' bs d m)(hn:Nxt wr w1 B g v' v2 (d.run m) c)(ht:(d.run m).told c=[(k,ls)])(hb:Below w1.1.size w1 w2)(ho:v2.ownBlock≠some g2)(hW:Aside (fun j=>rv.ownBlock=some j) w2 W)(hR:bD W w.1.size rv2 (bs++[g2]) (d.tolds m++[(k,ls)]))(n:Nat)(hN:n=(d.run m).n+1):FI w (W.setCell ⟨g,0,none⟩ (.int .i64 (n:Int))) B g v rv2 v2 (bs++[g2]) d (m++[c]):=by
 subst hN
 have hn2:=hn.later hb
 obtain⟨k1,k2⟩:=h.keeps hn hb
 have hs:=h.aside.size
 have hlow:∀j,rv.ownBlock=some j->w.1.size<=j:=fun j hj=>(k1.lt j hj).1
 have hg:rv.ownBlock≠some g:=k1.apart hn2.lies (by decide)
 have hv2:∀j,v2.ownBlock=some j->¬rv.ownBlock=some j:=fun j hj=>by
  obtain⟨C,hC⟩:=ey hn2.held hj
  exact k1.apart hC (by decide)
 have hlies:W.1[g]?=_:=(hW.block g (cZ hn2.lies) hg).trans hn2.lies
 have hheld:=hn2.held.aside hW hv2
 have hset:Aside (·=g) W (W.setCell ⟨g,0,none⟩ (.int .i64 (((d.run m).n+1:Nat):Int))):=(Aside.refl (·=g) W).setCell (p:=⟨g,0,none⟩) (.inl rfl) _
 refine⟨?_,?_,?_,?_,?_⟩
 ·rw[Sp.run_snoc]
  refine⟨jl hlies 0 _ (by rw[Sp.step_n];rfl),hheld.aside hset (fun j hj hc=>bv hheld hlies (by decide) (by rw[hj,hc])),h.spl.base⟩
 ·rw[Sp.tolds_snoc,ht]
  refine hR.aside hset (fun k hk hc=>?_) (fun k hk hc=>?_)
  ·subst hc
   exact hR.apart hlies (by decide) hk
  ·subst hc
   obtain⟨C,hC⟩:=hR.block k hk
   rw[hlies] at hC
   injection hC with hC
   injection hC with _ hC
   exact absurd hC (by decide)
 ·refine((h.aside.trans hn2.aside (fun i hi hc=>?_)).trans hW (fun i hi hc=>?_)).setCell (p:=⟨g,0,none⟩) (.inl (.inl rfl)) _
  ·rcases hc with hc | hc
   ·exact .inl hc
   ·rcases h.own i hc with h1 | h1
    ·exact .inr h1
    ·omega
  ·have:=hlow i hc
   omega
 ·intro k hk
  rcases hn.own k hk with h1 | h1
  ·exact h.own k h1
  ·exact .inr (by omega)
 ·intro k hk
  rcases List.mem_append.1 hk with h1 | h1
  ·exact k2 k h1
  ·rw[List.mem_singleton.1 h1]
   exact ho
end
theorem FI.start{w:World}{B g:Nat}{v:Value}{d:Sp}(h:Spl w B g v d):FI w w B g v (.slice none 0 0) v [] d [] :=
 ⟨h,by rw[Sp.tolds_nil];exact p6 _ _,Aside.refl _ _,fun _ h=>.inl h,fun _ h=>by cases h⟩
end
section
open Go.RowKit
attribute [local go_sem] aV
theorem vO(w:World)(B g:Nat)(v:Value)(d:Sp)(p:OA)(c:Nat)(l:L8)(h:Spl w B g v d)(hA:At w p l)(hp:l≠[]->∀b o,p=some ⟨b,o,none⟩->b≠g∧v.ownBlock≠some b)(hn:d.n+l.length<=100000000):Calls Tryz.prog 39 #[.pointer (some ⟨g,0,none⟩),.slice p l.length c] w fun e w'=>∃q cap v' bs,e=.returned (.slice q (d.tolds l).length cap)∧FI w w' B g v (.slice q (d.tolds l).length cap) v' bs d l:=by
  have HFI:=yQ (FI.start h)
  have HA:Hid (∀wr,Aside (fun i=>i=g∨v.ownBlock=some i) w wr->At wr p l):=fun wr ha=>by
    by_cases h0:l=[]
    · exact .inl h0
    · exact hA.aside ha (fun b o hb hc=>by
        rcases hc with hc | hc
        · exact(hp h0 b o hb).1 hc
        · exact(hp h0 b o hb).2 hc)
  have hlen:l.length<=100000000:=by omega
  have HN:=yQ hn
  clear h hA hp hn
  go_enter Tryz.func39,Tryz.ntmps39
  go_wp2
  go_loopw [5,11] (fun v5 v11 wr=>∃(i:Nat) (v':Value) (bs:List Nat),i<=l.length∧v11=.int .i64 i∧Hid (FI w wr B g v v5 v' bs d (l.take i))) (fun _ v11 _=>l.length-(intOf v11).toNat)
  case atStart=>exact⟨0,v,[],by omega,rfl,HFI.out⟩
  case round=>
    clear HFI
    obtain⟨i,v',bs,hi,rfl,HI⟩:=hrel
    obtain⟨rq,rc,hform,-⟩:=HI.out.runs.form
    subst hform
    by_cases hlt:i<l.length
    · have hlt':(i:Int)<(l.length:Int):=by omega
      obtain⟨b,o,hp,-,hcells⟩:=aX (HA.out wr HI.out.aside) (by omega)
      subst hp
      have hci:=hcells i hlt
      obtain⟨x,hx⟩:∃x,x=l[i]:=⟨_,rfl⟩
      rw[<-hx] at hci
      have HM:Hid (l.take (i+1)=l.take i++[x]):=by
        show _=_
        rw[List.take_succ_eq_append_getElem hlt,hx]
      clear hcells hx
      obtain⟨D,hD⟩:∃D,D=d.run (l.take i):=⟨_,rfl⟩
      have hDn:D.n<=100000000:=by
        have:=HN.out
        rw[hD,Sp.run_n,List.length_take]
        omega
      have HD:=yQ hD
      have hs:Spl wr B g v' D:=by rw[hD];exact HI.out.spl
      have c3:wr.cell? ⟨g,3,none⟩=some (cO g D.op):=bW hs.lies 3
      have HP:=yQ (xB wr B g v' D x hs)
      have HH:=yQ (fun k=>xU wr B g v' D k x hs)
      clear hs hD
      rcases hop:D.op with _ | k
      case' none=>
        rw[hop] at c3
        simp only[cO] at c3
        go_wp2_with fail
        refine(HP.out hop).mono ?_
      case' some=>
        rw[hop] at c3
        simp only[cO] at c3
        go_wp2_with fail
        refine(HH.out k hop).mono ?_
      all_goals
        clear HP HH c3 hop hci
        rintro e w1 ⟨v2,a,u,rfl,hN,hR⟩
        rcases hR with ⟨ht,pu,cu,rfl⟩ | ⟨k,ls,g2,c2,ht,hne,rfl,rfl,hm,ho⟩
        · have hb2:Below w1.1.size w1 (w1.alloc (.cells #[.int .i64 a,.slice pu 0 cu] 84)):=yY
          have hl2:=iX hN.lies hb2
          have z0:(w1.alloc (.cells #[.int .i64 a,.slice pu 0 cu] 84)).cell? ⟨g,0,none⟩=some (.int .i64 D.n):=bW hl2 0
          have y0:=fY hl2 0
          have HN2:=yQ hN
          have HT:=yQ ht
          clear hN ht hl2
          go_wp2
          go_roundw
          case rel=>
            refine⟨i+1,v2,bs,by omega,by go_num,?_⟩
            rw[HD.out] at HN2 HT
            show FI w _ _ _ _ _ _ _ _ _
            rw[HM.out]
            have:=qX HI.out HN2.out HT.out hb2 (D.n+1) (by rw[HD.out])
            rw[show(((D.n+1:Nat):Int))=(D.n:Int)+1 by omega] at this
            exact this
          case measure=>simp[intOf];omega
        · have hlp:0<ls.length:=List.length_pos_iff.2 hne
          have hlp':(0:Int)<(ls.length:Int):=by omega
          have hb2:Below w1.1.size w1 ((w1.alloc (.cells #[.int .i64 (k:Int),.slice (some ⟨g2,0,none⟩) ls.length c2] 84)).alloc (.cells #[.int .i64 (k:Int),.slice (some ⟨g2,0,none⟩) ls.length c2] 84)):=yY.alloc (by simp) _
          have HN2:=yQ hN
          have HT:=yQ ht
          have hRk:=(HI.out.keeps (by rw[<-HD.out];exact hN) hb2).1
          have hsz:=HI.out.aside.size
          have hsz1:=hN.aside.size
          have HRk:=yQ hRk
          have HMn:=yQ (mN (B':=w.1.size) (Has.on (v:=.slice (some ⟨g2,0,none⟩) ls.length c2) hm hb2) hsz)
          have HBk:Hid (((w1.alloc (.cells #[.int .i64 (k:Int),.slice (some ⟨g2,0,none⟩) ls.length c2] 84)).alloc (.cells #[.int .i64 (k:Int),.slice (some ⟨g2,0,none⟩) ls.length c2] 84)).1[w1.1.size+1]?=some (.cells #[.int .i64 (k:Int),.slice (some ⟨g2,0,none⟩) ls.length c2] 84)):=by
            show _=_
            have:=bu (w1.alloc (.cells #[.int .i64 (k:Int),.slice (some ⟨g2,0,none⟩) ls.length c2] 84)) (.cells #[.int .i64 (k:Int),.slice (some ⟨g2,0,none⟩) ls.length c2] 84)
            simpa using this
          have HLn:Hid ((d.tolds (l.take i)).length<=1000000000):=by
            show _<=_
            have:=Sp.tolds_len d (l.take i)
            rw[List.length_take] at this
            omega
          have HO:=yQ ho
          have HL2:=yQ (iX hN.lies hb2)
          have HGa:=yQ (hRk.apart (iX hN.lies hb2) (by decide))
          clear hN ht hRk hm ho
          go_wp2_with (at_builtin
                       refine rK HRk.out k ls g2 c2 HMn.out HBk.out HLn.out (by simp;omega) rfl rfl rfl rfl rfl ?_
                       intro g3 c3 W hR3 hW3 _
                       have hl3:W.1[g]?=_:=(hW3.block g (cZ HL2.out) HGa.out).trans HL2.out
                       have z0:W.cell? ⟨g,0,none⟩=some (.int .i64 D.n):=bW hl3 0
                       have y0:=fY hl3 0
                       have HR3:=yQ hR3
                       have HW3:=yQ hW3
                       clear hR3 hW3 hl3)
          go_roundw
          case rel=>
            refine⟨i+1,v2,bs++[g2],by omega,by go_num,?_⟩
            rw[HD.out] at HN2 HT
            show FI w _ _ _ _ _ _ _ _ _
            rw[HM.out]
            have:=qW HI.out HN2.out HT.out hb2 HO.out HW3.out HR3.out (D.n+1) (by rw[HD.out])
            rw[show(((D.n+1:Nat):Int))=(D.n:Int)+1 by omega] at this
            exact this
          case measure=>simp[intOf];omega
    · have hii:i=l.length:=by omega
      subst hii
      have HI2:Hid (FI w wr B g v (.slice rq (d.tolds l).length rc) v' bs d l):=by
        have:=HI.out
        rw[List.take_length] at this
        exact this
      rw[List.take_length]
      clear HI
      go_wp2
      go_ret
      exact⟨rq,rc,v',bs,rfl,HI2.out⟩
end
section
open Go.RowKit
attribute [local go_sem] aV
theorem xE(w:World):Calls Tryz.prog 36 #[] w fun e w'=>∃g v,e=.returned (.pointer (some ⟨g,0,none⟩))∧Spl w' w.1.size g v Sp.start∧Below w.1.size w w':=by
 have h0:(w.alloc (.cells (bP 0 0 (.slice none 0 0) .nilFunc) 142)).1[w.1.size]?=some (.cells (bP 0 0 (.slice none 0 0) .nilFunc) 142):=bu w _
 have HF:=yQ (iY w.1.size 0 0 0 none 0 .nilFunc _ none h0)
 simp only[opI] at HF
 go_enter Tryz.func36,Tryz.ntmps36
 go_wp2_with fail
 refine HF.out.mono ?_
 rintro e w1 ⟨rfl,hl,ha⟩
 go_wp2
 go_ret
 refine⟨w.1.size,_,rfl,⟨hl,aW _ _,yX⟩,?_⟩
 exact((Below.refl w.1.size w).alloc yX _).trans (ha.below (by simp) (fun k hk hc=>by omega))
theorem bD.low{w:World}{B B':Nat}{v:Value}{bs:List Nat}{rs:List Run}(h:bD w B v bs rs)(hB:B'<=B):bD w B' v bs rs:=by
 obtain⟨us,h1,hl,h2⟩:=h.out
 refine⟨us,⟨h1.1,?_⟩,hl,fun j hj=>?_⟩
 ·rcases h1.2 with h3 | ⟨g,cap,cur,rfl,h4,h5⟩
  ·exact .inl h3
  ·exact .inr ⟨g,cap,cur,rfl,by omega,h5⟩
 ·obtain⟨g,cap,e1,e2,e3,hm⟩:=h2 j hj
  exact⟨g,cap,e1,e2,e3,mN hm hB⟩
theorem xx(w:World)(p:OA)(c:Nat)(l:L8)(hA:At w p l)(hl:l.length<=100000000):Calls Tryz.prog 22 #[.slice p l.length c] w fun e w'=>∃q cap bs,e=.returned (.slice q (Sp.of l).out.length cap)∧bD w' w.1.size (.slice q (Sp.of l).out.length cap) bs (Sp.of l).out∧Below w.1.size w w':=by
 have HN:=yQ (xE w)
 have HA:=yQ hA
 clear hA
 go_enter Tryz.func22,Tryz.ntmps22
 go_wp2_with fail
 refine HN.out.mono ?_
 rintro e w1 ⟨g,v,rfl,hs,hb⟩
 have HF:=yQ (vO w1 w.1.size g v Sp.start p c l hs (HA.out.on hb) (fun hne b o hp=>by
  rcases HA.out with h0 | ⟨b',o',h1,h2,h3⟩
  ·exact absurd h0 hne
  ·rw[h1] at hp
   injection hp with hp
   injection hp with e1 _
   subst e1
   exact⟨by have:=hs.base;omega,fun hc=>by have:=(hs.held.lt _ hc).1;omega⟩) (by simp[Sp.start];omega))
 have HB:=yQ hb
 have HS:=yQ hs
 have HE:Hid (Sp.start.tolds l=(Sp.of l).out):=by
  show _=_
  have:=Sp.tolds_out Sp.start l
  simpa[Sp.start,Sp.of] using this.symm
 clear hs hb HN HA
 go_wp2_with fail
 refine HF.out.mono ?_
 rintro e w2 ⟨q,cap,v',bs,rfl,hf⟩
 rw[HE.out] at hf ⊢
 have HFi:=yQ hf
 clear hf HF
 go_wp2
 go_ret
 have hfo:=HFi.out.runs
 rw[HE.out] at hfo
 have hs1:=HB.out.size
 refine⟨q,cap,bs,rfl,hfo.low hs1,HB.out.trans (HFi.out.aside.below hs1 (fun k hk hc=>?_))⟩
 rcases hc with hc | hc
 ·have:=HS.out.base
  omega
 ·have:=(HS.out.held.lt _ hc).1
  omega
end
end Go.Proofs.YtdgacombdcajmaaGreatDoor
