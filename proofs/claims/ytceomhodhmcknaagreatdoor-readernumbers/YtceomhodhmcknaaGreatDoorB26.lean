import Derived.Test.YtceomhodhmcknaaGreatDoorB25
set_option maxRecDepth 100000
set_option maxHeartbeats 8000000
namespace Go.Proofs.YtceomhodhmcknaaGreatDoor
variable{B:Nat}{W w:World}{f:Fr}
section
open Go.RowKit
section
variable {P:Program} {Q:Exit->Act->World->Prop}
def sA(Q:Exit->Act->World->Prop):Exit->Act->World->Prop
 |.panic _,_,_=>False
 |e,a,w=>Q e a w
theorem je(a:Act)(w:World):sA Q .normal a w=Q .normal a w:=rfl
theorem oV{c:Code}{a:Act}(h:c.wp P (sA Q) a w):c.wp P Q a w:=Code.wp_mono (fun e a w he=>by cases e <;> first | exact he | exact he.elim) h
end
def sR(w:World)(r:Except Nat Fr)(e:Ending)(w':World):Prop:=match r with
 |.error k=>e=.returned (.tuple #[.agg #[.int .i64 0,.int .i64 0,.slice none 0 0,.int .i64 0,.int .i64 0,.int .i64 0,.slice none 0 0,.int .i64 0,.int .i64 0,.int .i64 0,.slice none 0 0],.int .i64 (k:Nat)])∧Below w.1.size w w'
 |.ok f=>∃u,e=.returned (.tuple #[.agg u,.int .i64 0])∧dD w' w.1.size u f∧Below w.1.size w w'
theorem ow{l:L8}{e:Nat}(h:Fr.open_ l=.error e):e≠0:=by
 unfold Fr.open_ at h
 split at h
 ·injection h with h;omega
 ·split at h
  ·next h1=>injection h with h;rw[<-h];exact h1
  ·split at h
   ·injection h with h;omega
   ·split at h
    ·cases h
    ·injection h with h;omega
theorem rX{sp:OA}{sc:Nat}(hk:Fr.norm f=f)(h1:f.kind=1)(hs:dn W B #[.slice sp f.cols.length sc] f.cols)(hB:w.1.size<=B):dD W w.1.size #[.int .i64 1,.int .i64 f.number,.slice sp f.cols.length sc,.int .i64 0,.int .i64 0,.int .i64 0,.slice none 0 0,.int .i64 0,.int .i64 0,.int .i64 0,.slice none 0 0] f:=by
 have e:f={ Fr0 with kind:=1,number:=f.number,cols:=f.cols.map Col.fix }:=by
  have:=hk
  unfold Fr.norm at this
  rw[if_pos h1] at this
  exact this.symm
 have e1:f.seq=0:=by rw[e];rfl
 have e2:f.first=0:=by rw[e];rfl
 have e3:f.rows=0:=by rw[e];rfl
 have e4:f.block=[]:=by rw[e];rfl
 have e5:f.index=kO:=by rw[e];rfl
 refine⟨sp,sc,none,0,none,0,?_,ik hs hB,?_,?_,?_,?_⟩
 ·unfold av
  rw[h1,e1,e2,e3,e4,e5]
  rfl
 ·rw[e4];exact aX _ _
 ·rw[e4];decide
 ·rw[e5];exact fC _ _
 ·rw[e5];decide
theorem rZ{bp:OA}{bc:Nat}(hk:Fr.norm f=f)(h1:f.kind=2)(hs:Has W B (.slice bp f.block.length bc) f.block)(hl:f.block.length<=2200)(hB:w.1.size<=B):dD W w.1.size #[.int .i64 2,.int .i64 f.number,.slice none 0 0,.int .i64 f.seq,.int .i64 f.first,.int .i64 f.rows,.slice bp f.block.length bc,.int .i64 0,.int .i64 0,.int .i64 0,.slice none 0 0] f:=by
 have e:f={ Fr0 with kind:=2,number:=f.number,seq:=f.seq,first:=f.first,rows:=f.rows,block:=f.block }:=by
  have:=hk
  unfold Fr.norm at this
  rw[if_neg (by omega),if_pos h1] at this
  exact this.symm
 have e4:f.cols=[]:=by rw[e];rfl
 have e5:f.index=kO:=by rw[e];rfl
 refine⟨none,0,bp,bc,none,0,?_,?_,hs.lower hB,hl,?_,?_⟩
 ·unfold av
  rw[h1,e4,e5]
  rfl
 ·rw[e4];exact lh _ _
 ·rw[e5];exact fC _ _
 ·rw[e5];decide
theorem rY{ep:OA}{ec:Nat}(hk:Fr.norm f=f)(h1:f.kind=3)(hs:da W B (.slice ep f.index.entries.length ec) f.index.entries)(hl:f.index.entries.length<=64)(hB:w.1.size<=B):dD W w.1.size #[.int .i64 3,.int .i64 0,.slice none 0 0,.int .i64 0,.int .i64 0,.int .i64 0,.slice none 0 0,.int .i64 f.index.at_,.int .i64 f.index.frames,.int .i64 f.index.rows,.slice ep f.index.entries.length ec] f:=by
 have e:f={ Fr0 with kind:=3,index:=f.index }:=by
  have:=hk
  unfold Fr.norm at this
  rw[if_neg (by omega),if_neg (by omega)] at this
  exact this.symm
 have e0:f.number=0:=by rw[e];rfl
 have e1:f.seq=0:=by rw[e];rfl
 have e2:f.first=0:=by rw[e];rfl
 have e3:f.rows=0:=by rw[e];rfl
 have e4:f.block=[]:=by rw[e];rfl
 have e5:f.cols=[]:=by rw[e];rfl
 refine⟨none,0,none,0,ep,ec,?_,?_,?_,?_,hs.low hB,hl⟩
 ·unfold av
  rw[h1,e0,e1,e2,e3,e4,e5]
  rfl
 ·rw[e5];exact lh _ _
 ·rw[e4];exact aX _ _
 ·rw[e4];decide
theorem ng{w4:World}(hI:bu w w4 0)(c0 c1 c2 c3 c4 c5 c6 c7 c8 c9 c10:Value):((((((((((((w4.setCell ⟨w.1.size,0,none⟩ (c0)).setCell ⟨w.1.size,1,none⟩ (c1)).setCell ⟨w.1.size,2,none⟩ (c2)).setCell ⟨w.1.size,3,none⟩ (c3)).setCell ⟨w.1.size,4,none⟩ (c4)).setCell ⟨w.1.size,5,none⟩ (c5)).setCell ⟨w.1.size,6,none⟩ (c6)).setCell ⟨w.1.size,7,none⟩ (c7)).setCell ⟨w.1.size,8,none⟩ (c8)).setCell ⟨w.1.size,9,none⟩ (c9)).setCell ⟨w.1.size,10,none⟩ (c10)).setCell ⟨w.1.size+1,0,none⟩ (.int .i64 0)).1[w.1.size]?=some (.cells #[c0,c1,c2,c3,c4,c5,c6,c7,c8,c9,c10] 61 (0,0))∧((((((((((((w4.setCell ⟨w.1.size,0,none⟩ (c0)).setCell ⟨w.1.size,1,none⟩ (c1)).setCell ⟨w.1.size,2,none⟩ (c2)).setCell ⟨w.1.size,3,none⟩ (c3)).setCell ⟨w.1.size,4,none⟩ (c4)).setCell ⟨w.1.size,5,none⟩ (c5)).setCell ⟨w.1.size,6,none⟩ (c6)).setCell ⟨w.1.size,7,none⟩ (c7)).setCell ⟨w.1.size,8,none⟩ (c8)).setCell ⟨w.1.size,9,none⟩ (c9)).setCell ⟨w.1.size,10,none⟩ (c10)).setCell ⟨w.1.size+1,0,none⟩ (.int .i64 0)).cell? ⟨w.1.size+1,0,none⟩=some (.int .i64 0)∧Aside (fun i=>i=w.1.size∨i=w.1.size+1) w4 ((((((((((((w4.setCell ⟨w.1.size,0,none⟩ (c0)).setCell ⟨w.1.size,1,none⟩ (c1)).setCell ⟨w.1.size,2,none⟩ (c2)).setCell ⟨w.1.size,3,none⟩ (c3)).setCell ⟨w.1.size,4,none⟩ (c4)).setCell ⟨w.1.size,5,none⟩ (c5)).setCell ⟨w.1.size,6,none⟩ (c6)).setCell ⟨w.1.size,7,none⟩ (c7)).setCell ⟨w.1.size,8,none⟩ (c8)).setCell ⟨w.1.size,9,none⟩ (c9)).setCell ⟨w.1.size,10,none⟩ (c10)).setCell ⟨w.1.size+1,0,none⟩ (.int .i64 0))∧Below w.1.size w ((((((((((((w4.setCell ⟨w.1.size,0,none⟩ (c0)).setCell ⟨w.1.size,1,none⟩ (c1)).setCell ⟨w.1.size,2,none⟩ (c2)).setCell ⟨w.1.size,3,none⟩ (c3)).setCell ⟨w.1.size,4,none⟩ (c4)).setCell ⟨w.1.size,5,none⟩ (c5)).setCell ⟨w.1.size,6,none⟩ (c6)).setCell ⟨w.1.size,7,none⟩ (c7)).setCell ⟨w.1.size,8,none⟩ (c8)).setCell ⟨w.1.size,9,none⟩ (c9)).setCell ⟨w.1.size,10,none⟩ (c10)).setCell ⟨w.1.size+1,0,none⟩ (.int .i64 0)):=by
 have hs:=hI.size
 have hA1:Aside (fun i=>i=w.1.size) w4 (((((((((((w4.setCell ⟨w.1.size,0,none⟩ (c0)).setCell ⟨w.1.size,1,none⟩ (c1)).setCell ⟨w.1.size,2,none⟩ (c2)).setCell ⟨w.1.size,3,none⟩ (c3)).setCell ⟨w.1.size,4,none⟩ (c4)).setCell ⟨w.1.size,5,none⟩ (c5)).setCell ⟨w.1.size,6,none⟩ (c6)).setCell ⟨w.1.size,7,none⟩ (c7)).setCell ⟨w.1.size,8,none⟩ (c8)).setCell ⟨w.1.size,9,none⟩ (c9)).setCell ⟨w.1.size,10,none⟩ (c10)):=aO w4 w.1.size c0 c1 c2 c3 c4 c5 c6 c7 c8 c9 c10
 have hG1:(((((((((((w4.setCell ⟨w.1.size,0,none⟩ (c0)).setCell ⟨w.1.size,1,none⟩ (c1)).setCell ⟨w.1.size,2,none⟩ (c2)).setCell ⟨w.1.size,3,none⟩ (c3)).setCell ⟨w.1.size,4,none⟩ (c4)).setCell ⟨w.1.size,5,none⟩ (c5)).setCell ⟨w.1.size,6,none⟩ (c6)).setCell ⟨w.1.size,7,none⟩ (c7)).setCell ⟨w.1.size,8,none⟩ (c8)).setCell ⟨w.1.size,9,none⟩ (c9)).setCell ⟨w.1.size,10,none⟩ (c10)).1[w.1.size]?=some (.cells #[c0,c1,c2,c3,c4,c5,c6,c7,c8,c9,c10] 61 (0,0)):=bm hI.b0 c0 c1 c2 c3 c4 c5 c6 c7 c8 c9 c10
 have hE1:(((((((((((w4.setCell ⟨w.1.size,0,none⟩ (c0)).setCell ⟨w.1.size,1,none⟩ (c1)).setCell ⟨w.1.size,2,none⟩ (c2)).setCell ⟨w.1.size,3,none⟩ (c3)).setCell ⟨w.1.size,4,none⟩ (c4)).setCell ⟨w.1.size,5,none⟩ (c5)).setCell ⟨w.1.size,6,none⟩ (c6)).setCell ⟨w.1.size,7,none⟩ (c7)).setCell ⟨w.1.size,8,none⟩ (c8)).setCell ⟨w.1.size,9,none⟩ (c9)).setCell ⟨w.1.size,10,none⟩ (c10)).1[w.1.size+1]?=some (.cells #[.int .i64 0] 36 (0,0)):=(hA1.block _ (ao hI.b1) (by omega)).trans hI.b1
 have hA2:=ai (((((((((((w4.setCell ⟨w.1.size,0,none⟩ (c0)).setCell ⟨w.1.size,1,none⟩ (c1)).setCell ⟨w.1.size,2,none⟩ (c2)).setCell ⟨w.1.size,3,none⟩ (c3)).setCell ⟨w.1.size,4,none⟩ (c4)).setCell ⟨w.1.size,5,none⟩ (c5)).setCell ⟨w.1.size,6,none⟩ (c6)).setCell ⟨w.1.size,7,none⟩ (c7)).setCell ⟨w.1.size,8,none⟩ (c8)).setCell ⟨w.1.size,9,none⟩ (c9)).setCell ⟨w.1.size,10,none⟩ (c10)) (w.1.size+1) 0 (.int .i64 0)
 have hA3:=(hA1.mono (G:=fun i=>i=w.1.size∨i=w.1.size+1) (fun _ _ h=>.inl h)).trans hA2 (fun _ _ h=>.inr h)
 exact⟨(hA2.block _ (ao hG1) (by omega)).trans hG1,aa (al hE1 0 _) 0,hA3,hI.below.trans (hA3.below (by omega) (fun k hk=>by omega))⟩
end
section
open Go.RowKit
theorem l6(er:Nat)(p:OA)(c:Nat)(l:L8)(hl:l.length<=140737488351232)(hlc:l.length<=c)(w:World)(hv:Hv w)(h:At w p l)(mo:Fr.open_ l=.error er):
  Calls Tryz.prog 37 #[.slice p l.length c] w (sR w (Fr.dec l)):=by
 have hmf:∀(fn:Fn) (first cap:AV) (w:World),(Instr.makeFunc fn first cap).run Tryz.prog w=.ok (.func fn first cap) w:=fun _ _ _ _=>rfl
 obtain⟨r,hr⟩:∃r,r=Fr.dec l:=⟨_,rfl⟩
 have HR:Hid (r=match Fr.open_ l with
  |.error e=>.error e
  |.ok b=>Fr.rdF (b.headD 0).toNat b.tail):=hr
 have HDe:=xQ hr
 rw[<-hr]
 obtain⟨W0,hW0⟩:∃W0,W0=(w.alloc (.cells #[.int .i64 0,.int .i64 0,.slice none 0 0,.int .i64 0,.int .i64 0,.int .i64 0,.slice none 0 0,.int .i64 0,.int .i64 0,.int .i64 0,.slice none 0 0] 61)).alloc (.cells #[.int .i64 0] 36):=⟨_,rfl⟩
 have HI0:Hid (bu w W0 0):=by rw[hW0];exact eR w
 have HW0:Hid ((w.alloc (.cells #[.int .i64 0,.int .i64 0,.slice none 0 0,.int .i64 0,.int .i64 0,.int .i64 0,.slice none 0 0,.int .i64 0,.int .i64 0,.int .i64 0,.slice none 0 0] 61)).alloc (.cells #[.int .i64 0] 36)=W0):=by rw[hW0];exact rfl
 have HO:=xQ (t8 p c l hl hlc W0 (hv.next HI0.out.below) (h.on HI0.out.below))
 clear hr hW0 hv h
 rw[mo] at HO
 have hne:=ow mo
 have g0:((er:Int) != 0)=true:=by rw[bne_iff_ne];omega
 have HR2:Hid (r=.error er):=by show _=_;rw[HR.out,mo]
 clear mo HR hne HDe
 go_enter_defers Tryz.func37,Tryz.ntmps37
 go_wp2_with fail
 rw[HW0.out]
 refine HO.out.mono ?_
 rintro e w1 ⟨rfl,hb⟩
 have hI1:=HI0.out.on hb
 have x0:w1.cell? ⟨w.1.size,0,none⟩=some (.int .i64 0):=aa hI1.b0 0
 have xf0:=ac hI1.b0 0
 have x1:w1.cell? ⟨w.1.size,1,none⟩=some (.int .i64 0):=aa hI1.b0 1
 have xf1:=ac hI1.b0 1
 have x2:w1.cell? ⟨w.1.size,2,none⟩=some (.slice none 0 0):=aa hI1.b0 2
 have xf2:=ac hI1.b0 2
 have x3:w1.cell? ⟨w.1.size,3,none⟩=some (.int .i64 0):=aa hI1.b0 3
 have xf3:=ac hI1.b0 3
 have x4:w1.cell? ⟨w.1.size,4,none⟩=some (.int .i64 0):=aa hI1.b0 4
 have xf4:=ac hI1.b0 4
 have x5:w1.cell? ⟨w.1.size,5,none⟩=some (.int .i64 0):=aa hI1.b0 5
 have xf5:=ac hI1.b0 5
 have x6:w1.cell? ⟨w.1.size,6,none⟩=some (.slice none 0 0):=aa hI1.b0 6
 have xf6:=ac hI1.b0 6
 have x7:w1.cell? ⟨w.1.size,7,none⟩=some (.int .i64 0):=aa hI1.b0 7
 have xf7:=ac hI1.b0 7
 have x8:w1.cell? ⟨w.1.size,8,none⟩=some (.int .i64 0):=aa hI1.b0 8
 have xf8:=ac hI1.b0 8
 have x9:w1.cell? ⟨w.1.size,9,none⟩=some (.int .i64 0):=aa hI1.b0 9
 have xf9:=ac hI1.b0 9
 have x10:w1.cell? ⟨w.1.size,10,none⟩=some (.slice none 0 0):=aa hI1.b0 10
 have xf10:=ac hI1.b0 10
 have y0:w1.cell? ⟨w.1.size+1,0,none⟩=some (.int .i64 0):=aa hI1.b1 0
 have yf0:=ac hI1.b1 0
 have hI2:=hI1.setE er
 obtain⟨W2,hW2⟩:∃W2,W2=(((((((((((((w1.setCell ⟨w.1.size+1,0,none⟩ (.int .i64 er)).setCell ⟨w.1.size,0,none⟩ (.int .i64 0)).setCell ⟨w.1.size,1,none⟩ (.int .i64 0)).setCell ⟨w.1.size,2,none⟩ (.slice none 0 0)).setCell ⟨w.1.size,3,none⟩ (.int .i64 0)).setCell ⟨w.1.size,4,none⟩ (.int .i64 0)).setCell ⟨w.1.size,5,none⟩ (.int .i64 0)).setCell ⟨w.1.size,6,none⟩ (.slice none 0 0)).setCell ⟨w.1.size,7,none⟩ (.int .i64 0)).setCell ⟨w.1.size,8,none⟩ (.int .i64 0)).setCell ⟨w.1.size,9,none⟩ (.int .i64 0)).setCell ⟨w.1.size,10,none⟩ (.slice none 0 0)).setCell ⟨w.1.size+1,0,none⟩ (.int .i64 er)).drew:=⟨_,rfl⟩
 have hA1:Aside (fun i=>i=w.1.size) (w1.setCell ⟨w.1.size+1,0,none⟩ (.int .i64 er)) ((((((((((((w1.setCell ⟨w.1.size+1,0,none⟩ (.int .i64 er)).setCell ⟨w.1.size,0,none⟩ (.int .i64 0)).setCell ⟨w.1.size,1,none⟩ (.int .i64 0)).setCell ⟨w.1.size,2,none⟩ (.slice none 0 0)).setCell ⟨w.1.size,3,none⟩ (.int .i64 0)).setCell ⟨w.1.size,4,none⟩ (.int .i64 0)).setCell ⟨w.1.size,5,none⟩ (.int .i64 0)).setCell ⟨w.1.size,6,none⟩ (.slice none 0 0)).setCell ⟨w.1.size,7,none⟩ (.int .i64 0)).setCell ⟨w.1.size,8,none⟩ (.int .i64 0)).setCell ⟨w.1.size,9,none⟩ (.int .i64 0)).setCell ⟨w.1.size,10,none⟩ (.slice none 0 0)):=aO _ w.1.size (.int .i64 0) (.int .i64 0) (.slice none 0 0) (.int .i64 0) (.int .i64 0) (.int .i64 0) (.slice none 0 0) (.int .i64 0) (.int .i64 0) (.int .i64 0) (.slice none 0 0)
 have hG1:((((((((((((w1.setCell ⟨w.1.size+1,0,none⟩ (.int .i64 er)).setCell ⟨w.1.size,0,none⟩ (.int .i64 0)).setCell ⟨w.1.size,1,none⟩ (.int .i64 0)).setCell ⟨w.1.size,2,none⟩ (.slice none 0 0)).setCell ⟨w.1.size,3,none⟩ (.int .i64 0)).setCell ⟨w.1.size,4,none⟩ (.int .i64 0)).setCell ⟨w.1.size,5,none⟩ (.int .i64 0)).setCell ⟨w.1.size,6,none⟩ (.slice none 0 0)).setCell ⟨w.1.size,7,none⟩ (.int .i64 0)).setCell ⟨w.1.size,8,none⟩ (.int .i64 0)).setCell ⟨w.1.size,9,none⟩ (.int .i64 0)).setCell ⟨w.1.size,10,none⟩ (.slice none 0 0)).1[w.1.size]?=some (.cells #[.int .i64 0,.int .i64 0,.slice none 0 0,.int .i64 0,.int .i64 0,.int .i64 0,.slice none 0 0,.int .i64 0,.int .i64 0,.int .i64 0,.slice none 0 0] 61 (0,0)):=bm hI2.b0 (.int .i64 0) (.int .i64 0) (.slice none 0 0) (.int .i64 0) (.int .i64 0) (.int .i64 0) (.slice none 0 0) (.int .i64 0) (.int .i64 0) (.int .i64 0) (.slice none 0 0)
 have hE1:((((((((((((w1.setCell ⟨w.1.size+1,0,none⟩ (.int .i64 er)).setCell ⟨w.1.size,0,none⟩ (.int .i64 0)).setCell ⟨w.1.size,1,none⟩ (.int .i64 0)).setCell ⟨w.1.size,2,none⟩ (.slice none 0 0)).setCell ⟨w.1.size,3,none⟩ (.int .i64 0)).setCell ⟨w.1.size,4,none⟩ (.int .i64 0)).setCell ⟨w.1.size,5,none⟩ (.int .i64 0)).setCell ⟨w.1.size,6,none⟩ (.slice none 0 0)).setCell ⟨w.1.size,7,none⟩ (.int .i64 0)).setCell ⟨w.1.size,8,none⟩ (.int .i64 0)).setCell ⟨w.1.size,9,none⟩ (.int .i64 0)).setCell ⟨w.1.size,10,none⟩ (.slice none 0 0)).1[w.1.size+1]?=some (.cells #[.int .i64 er] 36 (0,0)):=(hA1.block _ (ao hI2.b1) (by omega)).trans hI2.b1
 have hA2:=ai ((((((((((((w1.setCell ⟨w.1.size+1,0,none⟩ (.int .i64 er)).setCell ⟨w.1.size,0,none⟩ (.int .i64 0)).setCell ⟨w.1.size,1,none⟩ (.int .i64 0)).setCell ⟨w.1.size,2,none⟩ (.slice none 0 0)).setCell ⟨w.1.size,3,none⟩ (.int .i64 0)).setCell ⟨w.1.size,4,none⟩ (.int .i64 0)).setCell ⟨w.1.size,5,none⟩ (.int .i64 0)).setCell ⟨w.1.size,6,none⟩ (.slice none 0 0)).setCell ⟨w.1.size,7,none⟩ (.int .i64 0)).setCell ⟨w.1.size,8,none⟩ (.int .i64 0)).setCell ⟨w.1.size,9,none⟩ (.int .i64 0)).setCell ⟨w.1.size,10,none⟩ (.slice none 0 0)) (w.1.size+1) 0 (.int .i64 er)
 have HF1:Hid (W2.1[w.1.size]?=some (.cells #[.int .i64 0,.int .i64 0,.slice none 0 0,.int .i64 0,.int .i64 0,.int .i64 0,.slice none 0 0,.int .i64 0,.int .i64 0,.int .i64 0,.slice none 0 0] 61 (0,0))):=by
  show _=_
  rw[hW2,dC]
  exact(hA2.block _ (ao hG1) (by omega)).trans hG1
 have HF2:Hid (W2.cell? ⟨w.1.size+1,0,none⟩=some (.int .i64 er)):=by
  have:W2.1[w.1.size+1]?=some (.cells #[.int .i64 er] 36 (0,0)):=by rw[hW2,dC];exact al hE1 0 _
  exact aa this 0
 have HF3:Hid (Below w.1.size w W2):=by
  have hs:=hI2.size
  rw[hW2]
  exact(hI2.below.trans (((hA1.mono (G:=fun i=>i=w.1.size∨i=w.1.size+1) (fun _ _ h=>.inl h)).trans hA2 (fun _ _ h=>.inr h)).below (by omega) (fun k hk=>by omega))).drew
 have HW2:Hid ((((((((((((((w1.setCell ⟨w.1.size+1,0,none⟩ (.int .i64 er)).setCell ⟨w.1.size,0,none⟩ (.int .i64 0)).setCell ⟨w.1.size,1,none⟩ (.int .i64 0)).setCell ⟨w.1.size,2,none⟩ (.slice none 0 0)).setCell ⟨w.1.size,3,none⟩ (.int .i64 0)).setCell ⟨w.1.size,4,none⟩ (.int .i64 0)).setCell ⟨w.1.size,5,none⟩ (.int .i64 0)).setCell ⟨w.1.size,6,none⟩ (.slice none 0 0)).setCell ⟨w.1.size,7,none⟩ (.int .i64 0)).setCell ⟨w.1.size,8,none⟩ (.int .i64 0)).setCell ⟨w.1.size,9,none⟩ (.int .i64 0)).setCell ⟨w.1.size,10,none⟩ (.slice none 0 0)).setCell ⟨w.1.size+1,0,none⟩ (.int .i64 er)).drew=W2):=by rw[hW2];exact rfl
 clear hI1 hI2 hb hW2 hA1 hG1 hE1 hA2 HO HI0 HW0
 go_wp2_with fail
 refine oV ?_
 go_region_law (fail)
 all_goals
  rw[je]
  rw[HW2.out]
  go_wp2
  refine⟨_,bA rfl _ _ w.1.size (w.1.size+1) _ #[.int .i64 0,.int .i64 0,.slice none 0 0,.int .i64 0,.int .i64 0,.int .i64 0,.slice none 0 0,.int .i64 0,.int .i64 0,.int .i64 0,.slice none 0 0] _ _ (er:Int) rfl HF1.out Tryz.underlying61 rfl (by kernel_rfl) rfl HF2.out Tryz.underlying36,?_⟩
  rw[HR2.out]
  exact⟨rfl,HF3.out⟩
end
section
open Go.RowKit
theorem nK(b:L8)(p:OA)(c:Nat)(l:L8)(hl:l.length<=140737488351232)(hlc:l.length<=c)(w:World)(hv:Hv w)(h:At w p l)(mo:Fr.open_ l=.ok b):
  Calls Tryz.prog 37 #[.slice p l.length c] w (sR w (Fr.dec l)):=by
 have hmf:∀(fn:Fn) (first cap:AV) (w:World),(Instr.makeFunc fn first cap).run Tryz.prog w=.ok (.func fn first cap) w:=fun _ _ _ _=>rfl
 obtain⟨r,hr⟩:∃r,r=Fr.dec l:=⟨_,rfl⟩
 have HR:Hid (r=match Fr.open_ l with
  |.error e=>.error e
  |.ok b=>Fr.rdF (b.headD 0).toNat b.tail):=hr
 have HDe:=xQ hr
 rw[<-hr]
 obtain⟨W0,hW0⟩:∃W0,W0=(w.alloc (.cells #[.int .i64 0,.int .i64 0,.slice none 0 0,.int .i64 0,.int .i64 0,.int .i64 0,.slice none 0 0,.int .i64 0,.int .i64 0,.int .i64 0,.slice none 0 0] 61)).alloc (.cells #[.int .i64 0] 36):=⟨_,rfl⟩
 have HI0:Hid (bu w W0 0):=by rw[hW0];exact eR w
 have HW0:Hid ((w.alloc (.cells #[.int .i64 0,.int .i64 0,.slice none 0 0,.int .i64 0,.int .i64 0,.int .i64 0,.slice none 0 0,.int .i64 0,.int .i64 0,.int .i64 0,.slice none 0 0] 61)).alloc (.cells #[.int .i64 0] 36)=W0):=by rw[hW0];exact rfl
 have HO:=xQ (t8 p c l hl hlc W0 (hv.next HI0.out.below) (h.on HI0.out.below))
 -- a panic that goes through the door
 have HDoor:Hid (∀(er:Nat) (W2:World) (y:Int),r=.error er->bu w W2 y->∀(tmps:AV) (ds:List Deferred),tmps.getD 2 undef=.pointer (some ⟨w.1.size,0,none⟩)->tmps.getD 3 undef=.pointer (some ⟨w.1.size+1,0,none⟩)->ds=[{ target:=.fn (.func 58) #[.pointer (some ⟨w.1.size,0,none⟩),.pointer (some ⟨w.1.size+1,0,none⟩)],args:=#[] }]->bodyPostD Tryz.prog Tryz.f37 (sR w r) (Exit.panic (cY er)) { tmps:=tmps,defers:=ds } W2):=by
  intro er W2 y he hI tmps ds h2 h3 hds
  subst hds
  refine leaves_cons (f:=58) (args:=#[.pointer (some ⟨w.1.size,0,none⟩),.pointer (some ⟨w.1.size+1,0,none⟩)]) (by simp) (by simp[go_sem]) ?_
  refine(fE w.1.size (w.1.size+1) er y W2 hI.b0 hI.b1 (by omega)).mono ?_
  rintro e u' w'' ⟨rfl,rfl,k1,k2,k3⟩
  refine⟨_,bA rfl tmps _ w.1.size (w.1.size+1) _ #[.int .i64 0,.int .i64 0,.slice none 0 0,.int .i64 0,.int .i64 0,.int .i64 0,.slice none 0 0,.int .i64 0,.int .i64 0,.int .i64 0,.slice none 0 0] _ _ (er:Int) h2 k1 Tryz.underlying61 rfl (by kernel_rfl) h3 (aa k2 0) Tryz.underlying36,?_⟩
  rw[he]
  exact⟨rfl,hI.below.trans (k3.below (by have:=hI.size;omega) (fun k hk=>by omega))⟩
 -- the way out without one
 have HEnd:Hid (∀(W3:World) (u:AV) (f:Fr),r=.ok f->W3.1[w.1.size]?=some (.cells u 61 (0,0))->u.size=11->W3.cell? ⟨w.1.size+1,0,none⟩=some (.int .i64 0)->dD W3 w.1.size u f->Below w.1.size w W3->∀(tmps:AV) (ds:List Deferred),tmps.getD 2 undef=.pointer (some ⟨w.1.size,0,none⟩)->tmps.getD 3 undef=.pointer (some ⟨w.1.size+1,0,none⟩)->ds=[{ target:=.fn (.func 58) #[.pointer (some ⟨w.1.size,0,none⟩),.pointer (some ⟨w.1.size+1,0,none⟩)],args:=#[] }]->bodyPostD Tryz.prog Tryz.f37 (sR w r) Exit.ret { tmps:=tmps,defers:=ds } W3):=by
  intro W3 u f he hG hu hE hF hB tmps ds h2 h3 hds
  subst hds
  refine leaves_cons (f:=58) (args:=#[.pointer (some ⟨w.1.size,0,none⟩),.pointer (some ⟨w.1.size+1,0,none⟩)]) (by simp) (by simp[go_sem]) ?_
  refine(kG ⟨w.1.size,0,none⟩ ⟨w.1.size+1,0,none⟩ _).mono ?_
  rintro e u' w'' ⟨rfl,rfl,rfl⟩
  refine⟨_,bA rfl tmps _ w.1.size (w.1.size+1) _ u _ _ 0 h2 hG Tryz.underlying61 rfl (by rw[hu];kernel_rfl) h3 hE Tryz.underlying36,?_⟩
  rw[he]
  exact⟨u,rfl,hF,hB⟩
 clear hr hW0 hv h
 rw[mo] at HO
 obtain⟨hl22,hst,hb1⟩:=Fr.open_ok mo
 obtain⟨x,t,rfl⟩:∃x t,b=x::t:=by
  cases b with
  |nil=>simp at hb1
  |cons x t=>exact⟨x,t,rfl⟩
 have HR2:Hid (r=Fr.rdF x.toNat t):=by show _=_;rw[HR.out,mo];rfl
 have htl:t.length<=2200:=by
  have h1:=(Cob.stuff_length (Fr.check (x::t))).1
  rw[hst,Fr.check_length,List.length_cons] at h1
  omega
 have hx256:=x.toNat_lt
 clear mo HR hst hb1
 go_enter_defers Tryz.func37,Tryz.ntmps37
 go_wp2_with fail
 rw[HW0.out]
 refine HO.out.mono ?_
 rintro e w1 ⟨g,o,cap,rfl,hat,hcap,hg,hb⟩
 have hI1:=HI0.out.on hb
 have hsI:=hI1.size
 have y0:w1.cell? ⟨w.1.size+1,0,none⟩=some (.int .i64 0):=aa hI1.b1 0
 have yf0:=ac hI1.b1 0
 have hI2:=hI1.setE 0
 have hsW0:=HI0.out.size
 obtain⟨gb,go',hgo,hgl,hcs⟩:=aZ hat (by simp)
 injection hgo with hgo
 injection hgo with hgo1 hgo2
 subst hgo1 hgo2
 have z0:w1.cell? ⟨g,o,none⟩=some (.int .u8 (x.toNat:Int)):=hcs 0 (by simp)
 rw[List.length_cons] at hcap
 have s1:∀w',(Instr.slice 22 (.slice (some ⟨g,o,none⟩) (t.length+1) cap) (some (.int .i64 1)) none none).run Tryz.prog w'=.ok (.slice (cZ (some ⟨g,o,none⟩) 1 cap) t.length (cap-1)) w':=fun w'=>by
  have:=dp (some ⟨g,o,none⟩) (t.length+1) cap 1 (by omega) w'
  rw[Nat.add_sub_cancel] at this
  exact this
 obtain⟨W2,hW2⟩:∃W2,W2=(w1.setCell ⟨w.1.size+1,0,none⟩ (.int .i64 0)).alloc (.cells #[.slice (cZ (some ⟨g,o,none⟩) 1 cap) t.length (cap-1)] 137):=⟨_,rfl⟩
 have hsE:(w1.setCell ⟨w.1.size+1,0,none⟩ (.int .i64 0)).1.size=w1.1.size:=by simp[World.setCell]
 have hbE:Below (w1.setCell ⟨w.1.size+1,0,none⟩ (.int .i64 0)).1.size (w1.setCell ⟨w.1.size+1,0,none⟩ (.int .i64 0)) W2:=by rw[hW2];exact xY
 have HI2:Hid (bu w W2 0):=hI2.on hbE
 have hz2:W2.1.size=w1.1.size+1:=by rw[hW2];simp[hsE]
 have hae:Aside (fun i=>i=w.1.size+1) w1 W2:=by
  have h1:=ai w1 (w.1.size+1) 0 (.int .i64 0)
  exact h1.trans (ag hbE (fun i=>i=w.1.size+1)) (fun _ _ h=>h)
 have z2:W2.cell? ⟨g,o,none⟩=some (.int .u8 (x.toNat:Int)):=(hae.cell (p:=⟨g,o,none⟩) hgl (by show ¬g=_;omega)).trans z0
 have hat2:At W2 (some ⟨g,o,none⟩) (x::t):=hat.aside hae (fun b o hp=>by injection hp with hp;injection hp with hp1 _;omega)
 have HRd:Hid (cu W2 w1.1.size w1.1.size t):=by
  refine⟨⟨cZ (some ⟨g,o,none⟩) 1 cap,cap-1,?_,?_,by omega,fun _=>fa (fun a ha=>by injection ha with ha;rw[<-ha];exact hgl)⟩,htl,xX⟩
  ·rw[hW2]
   have:=ap (w1.setCell ⟨w.1.size+1,0,none⟩ (.int .i64 0)) (.cells #[.slice (cZ (some ⟨g,o,none⟩) 1 cap) t.length (cap-1)] 137)
   rw[hsE] at this
   exact this
  ·have:=hat2.cut 1 cap (by simpa using hcap)
   simpa using this
 have HF:=xQ (tH x.toNat t w1.1.size w1.1.size W2 HRd.out)
 obtain⟨rf,hrf⟩:∃rf,rf=Fr.rdF x.toNat t:=⟨_,rfl⟩
 rw[<-hrf] at HF HR2
 have HRf:=xQ hrf
 have HWe:Hid ((w1.setCell ⟨w.1.size+1,0,none⟩ (.int .i64 0)).alloc (.cells #[.slice (cZ (some ⟨g,o,none⟩) 1 cap) t.length (cap-1)] 137)=W2):=by rw[hW2];exact rfl
 rw[List.length_cons]
 clear hI1 hI2 hb hat hcs hat2 hae hbE hW2 HO hrf
 go_wp2_with fail
 rw[HWe.out]
 refine HF.out.mono ?_
 intro e w3 hh
 cases rf with
 |error er=>
  obtain⟨he,ha⟩:=hh.bad
  subst he
  have HI3:=xQ (HI2.out.step ha (by omega))
  clear hh ha HF
  go_wp2
  exact HDoor.out er w3 _ HR2.out HI3.out _ _ rfl rfl rfl
 |ok f=>
  obtain⟨v,he,hv,ha⟩:=hh.good
  subst he
  obtain⟨-,-,q3,q4,q5,-⟩:=Fr.rdF_ok HRf.out.symm
  have HI3:=xQ (HI2.out.step ha (by omega))
  have hs3:=ha.size
  clear hh ha HF HRf HDoor HRd
  rcases hv with ⟨hk,vx,rfl,hp⟩ | ⟨hk,vx,rfl,hp⟩ | ⟨hk,vx,rfl,hp⟩
  ·obtain⟨sp,sc,rfl,hp⟩:=hp
   have HP:=xQ hp
   have HC:=xQ (pY f.number sp f.cols.length sc w3)
   have HQ:=xQ (And.intro hk (And.intro q3 (And.intro q4 q5)))
   clear hp hk q3 q4 q5
   go_wp2_with fail
   refine HC.out.mono ?_
   rintro e w4 ⟨rfl,hb⟩
   have hI4:=HI3.out.on hb
   have HB4:=xQ hb
   have hs4:=hb.size
   have x0:w4.cell? ⟨w.1.size,0,none⟩=some (.int .i64 0):=aa hI4.b0 0
   have xf0:=ac hI4.b0 0
   have x1:w4.cell? ⟨w.1.size,1,none⟩=some (.int .i64 0):=aa hI4.b0 1
   have xf1:=ac hI4.b0 1
   have x2:w4.cell? ⟨w.1.size,2,none⟩=some (.slice none 0 0):=aa hI4.b0 2
   have xf2:=ac hI4.b0 2
   have x3:w4.cell? ⟨w.1.size,3,none⟩=some (.int .i64 0):=aa hI4.b0 3
   have xf3:=ac hI4.b0 3
   have x4:w4.cell? ⟨w.1.size,4,none⟩=some (.int .i64 0):=aa hI4.b0 4
   have xf4:=ac hI4.b0 4
   have x5:w4.cell? ⟨w.1.size,5,none⟩=some (.int .i64 0):=aa hI4.b0 5
   have xf5:=ac hI4.b0 5
   have x6:w4.cell? ⟨w.1.size,6,none⟩=some (.slice none 0 0):=aa hI4.b0 6
   have xf6:=ac hI4.b0 6
   have x7:w4.cell? ⟨w.1.size,7,none⟩=some (.int .i64 0):=aa hI4.b0 7
   have xf7:=ac hI4.b0 7
   have x8:w4.cell? ⟨w.1.size,8,none⟩=some (.int .i64 0):=aa hI4.b0 8
   have xf8:=ac hI4.b0 8
   have x9:w4.cell? ⟨w.1.size,9,none⟩=some (.int .i64 0):=aa hI4.b0 9
   have xf9:=ac hI4.b0 9
   have x10:w4.cell? ⟨w.1.size,10,none⟩=some (.slice none 0 0):=aa hI4.b0 10
   have xf10:=ac hI4.b0 10
   have e0:w4.cell? ⟨w.1.size+1,0,none⟩=some (.int .i64 0):=aa hI4.b1 0
   have ef0:=ac hI4.b1 0
   have HLs:=xQ (ng hI4 (.int .i64 1) (.int .i64 f.number) (.slice sp f.cols.length sc) (.int .i64 0) (.int .i64 0) (.int .i64 0) (.slice none 0 0) (.int .i64 0) (.int .i64 0) (.int .i64 0) (.slice none 0 0))
   clear hb hI4 HC
   go_wp2
   obtain⟨k1,k2,k3,k4⟩:=HLs.out
   obtain⟨hk,q3,q4,q5⟩:=HQ.out
   exact HEnd.out _ _ f HR2.out k1 rfl k2 (rX q5 hk (fV (fV HP.out (ag HB4.out (fun i=>i=w.1.size∨i=w.1.size+1)) (fun _ h1 h2 h3=>by omega)) k3 (fun _ h1 h2 h3=>by omega)) (by omega)) k4 _ _ rfl rfl rfl
  ·obtain⟨bp,bc,rfl,hp⟩:=hp
   have HP:=xQ hp
   have HC:=xQ (pX f.number f.seq f.first f.rows bp f.block.length bc w3)
   have HQ:=xQ (And.intro hk (And.intro q3 (And.intro q4 q5)))
   clear hp hk q3 q4 q5
   go_wp2_with fail
   refine HC.out.mono ?_
   rintro e w4 ⟨rfl,hb⟩
   have hI4:=HI3.out.on hb
   have HB4:=xQ hb
   have hs4:=hb.size
   have x0:w4.cell? ⟨w.1.size,0,none⟩=some (.int .i64 0):=aa hI4.b0 0
   have xf0:=ac hI4.b0 0
   have x1:w4.cell? ⟨w.1.size,1,none⟩=some (.int .i64 0):=aa hI4.b0 1
   have xf1:=ac hI4.b0 1
   have x2:w4.cell? ⟨w.1.size,2,none⟩=some (.slice none 0 0):=aa hI4.b0 2
   have xf2:=ac hI4.b0 2
   have x3:w4.cell? ⟨w.1.size,3,none⟩=some (.int .i64 0):=aa hI4.b0 3
   have xf3:=ac hI4.b0 3
   have x4:w4.cell? ⟨w.1.size,4,none⟩=some (.int .i64 0):=aa hI4.b0 4
   have xf4:=ac hI4.b0 4
   have x5:w4.cell? ⟨w.1.size,5,none⟩=some (.int .i64 0):=aa hI4.b0 5
   have xf5:=ac hI4.b0 5
   have x6:w4.cell? ⟨w.1.size,6,none⟩=some (.slice none 0 0):=aa hI4.b0 6
   have xf6:=ac hI4.b0 6
   have x7:w4.cell? ⟨w.1.size,7,none⟩=some (.int .i64 0):=aa hI4.b0 7
   have xf7:=ac hI4.b0 7
   have x8:w4.cell? ⟨w.1.size,8,none⟩=some (.int .i64 0):=aa hI4.b0 8
   have xf8:=ac hI4.b0 8
   have x9:w4.cell? ⟨w.1.size,9,none⟩=some (.int .i64 0):=aa hI4.b0 9
   have xf9:=ac hI4.b0 9
   have x10:w4.cell? ⟨w.1.size,10,none⟩=some (.slice none 0 0):=aa hI4.b0 10
   have xf10:=ac hI4.b0 10
   have e0:w4.cell? ⟨w.1.size+1,0,none⟩=some (.int .i64 0):=aa hI4.b1 0
   have ef0:=ac hI4.b1 0
   have HLs:=xQ (ng hI4 (.int .i64 2) (.int .i64 f.number) (.slice none 0 0) (.int .i64 f.seq) (.int .i64 f.first) (.int .i64 f.rows) (.slice bp f.block.length bc) (.int .i64 0) (.int .i64 0) (.int .i64 0) (.slice none 0 0))
   clear hb hI4 HC
   go_wp2
   obtain⟨k1,k2,k3,k4⟩:=HLs.out
   obtain⟨hk,q3,q4,q5⟩:=HQ.out
   have hfl:f.block.length<=2200:=by
    have h1:=congrArg List.length q4
    unfold Fr.fields at h1
    rw[if_neg (by omega),if_pos hk,List.length_append] at h1
    omega
   exact HEnd.out _ _ f HR2.out k1 rfl k2 (rZ q5 hk ((HP.out.on HB4.out).aside k3 (fun k hk hc=>by have:=(HP.out.lt k hk).1;omega)) hfl (by omega)) k4 _ _ rfl rfl rfl
  ·obtain⟨ep,ec,rfl,hp⟩:=hp
   have HP:=xQ hp
   have HC:=xQ (pW f.index.at_ f.index.frames f.index.rows ep f.index.entries.length ec w3)
   have HQ:=xQ (And.intro hk (And.intro q3 (And.intro q4 q5)))
   clear hp hk q3 q4 q5
   go_wp2_with fail
   refine HC.out.mono ?_
   rintro e w4 ⟨rfl,hb⟩
   have hI4:=HI3.out.on hb
   have HB4:=xQ hb
   have hs4:=hb.size
   have x0:w4.cell? ⟨w.1.size,0,none⟩=some (.int .i64 0):=aa hI4.b0 0
   have xf0:=ac hI4.b0 0
   have x1:w4.cell? ⟨w.1.size,1,none⟩=some (.int .i64 0):=aa hI4.b0 1
   have xf1:=ac hI4.b0 1
   have x2:w4.cell? ⟨w.1.size,2,none⟩=some (.slice none 0 0):=aa hI4.b0 2
   have xf2:=ac hI4.b0 2
   have x3:w4.cell? ⟨w.1.size,3,none⟩=some (.int .i64 0):=aa hI4.b0 3
   have xf3:=ac hI4.b0 3
   have x4:w4.cell? ⟨w.1.size,4,none⟩=some (.int .i64 0):=aa hI4.b0 4
   have xf4:=ac hI4.b0 4
   have x5:w4.cell? ⟨w.1.size,5,none⟩=some (.int .i64 0):=aa hI4.b0 5
   have xf5:=ac hI4.b0 5
   have x6:w4.cell? ⟨w.1.size,6,none⟩=some (.slice none 0 0):=aa hI4.b0 6
   have xf6:=ac hI4.b0 6
   have x7:w4.cell? ⟨w.1.size,7,none⟩=some (.int .i64 0):=aa hI4.b0 7
   have xf7:=ac hI4.b0 7
   have x8:w4.cell? ⟨w.1.size,8,none⟩=some (.int .i64 0):=aa hI4.b0 8
   have xf8:=ac hI4.b0 8
   have x9:w4.cell? ⟨w.1.size,9,none⟩=some (.int .i64 0):=aa hI4.b0 9
   have xf9:=ac hI4.b0 9
   have x10:w4.cell? ⟨w.1.size,10,none⟩=some (.slice none 0 0):=aa hI4.b0 10
   have xf10:=ac hI4.b0 10
   have e0:w4.cell? ⟨w.1.size+1,0,none⟩=some (.int .i64 0):=aa hI4.b1 0
   have ef0:=ac hI4.b1 0
   have HLs:=xQ (ng hI4 (.int .i64 3) (.int .i64 0) (.slice none 0 0) (.int .i64 0) (.int .i64 0) (.int .i64 0) (.slice none 0 0) (.int .i64 f.index.at_) (.int .i64 f.index.frames) (.int .i64 f.index.rows) (.slice ep f.index.entries.length ec))
   clear hb hI4 HC
   go_wp2
   obtain⟨k1,k2,k3,k4⟩:=HLs.out
   obtain⟨hk,q3,q4,q5⟩:=HQ.out
   have hfl:f.index.entries.length<=64:=by
    unfold Fr.err0 at q3
    rw[if_neg (by omega),if_neg (by omega),if_pos hk] at q3
    unfold Fr.idxErr at q3
    split at q3
    ·omega
    ·split at q3
     ·omega
     ·omega
   exact HEnd.out _ _ f HR2.out k1 rfl k2 (rY q5 hk ((HP.out.on HB4.out).aside k3 (fun k hk hc=>by have:=(HP.out.lt k hk).1;omega)) hfl (by omega)) k4 _ _ rfl rfl rfl
theorem tL(p:OA)(c:Nat)(l:L8)(hl:l.length<=140737488351232)(hlc:l.length<=c)(w:World)(hv:Hv w)(h:At w p l):
  Calls Tryz.prog 37 #[.slice p l.length c] w (sR w (Fr.dec l)):=by
 cases mo:Fr.open_ l with
 |error er=>exact l6 er p c l hl hlc w hv h mo
 |ok b=>exact nK b p c l hl hlc w hv h mo
end
end Go.Proofs.YtceomhodhmcknaaGreatDoor
