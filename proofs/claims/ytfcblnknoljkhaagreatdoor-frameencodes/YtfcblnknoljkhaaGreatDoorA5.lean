import Derived.Test.YtfcblnknoljkhaaGreatDoorA4
set_option maxRecDepth 100000
set_option maxHeartbeats 8000000
namespace Go.Proofs.YtfcblnknoljkhaaGreatDoor
open Go.RowKit
section
variable {P:Program} {Q:Exit → Act → World → Prop}
def calm12 (Q:Exit → Act → World → Prop):Exit → Act → World → Prop
 | .panic _,_,_ => False
 | e,a,w => Q e a w
theorem calm12_normal (a:Act) (w:World):calm12 Q .normal a w = Q .normal a w:=rfl
theorem wp_calm12 {c:Code} {a:Act} {w:World} (h:c.wp P (calm12 Q) a w):c.wp P Q a w:=Code.wp_mono (fun e a w he => by cases e <;> first | exact he | exact he.elim) h
end
def DecF (w:World) (r:Except Nat Fr) (e:Ending) (w':World):Prop:=match r with
 | .error k => e = .returned (.tuple #[.agg #[.int .i64 0,.int .i64 0,.slice none 0 0,.int .i64 0,.int .i64 0,.int .i64 0,.slice none 0 0,.int .i64 0,.int .i64 0,.int .i64 0,.slice none 0 0],.int .i64 (k:Nat)]) ∧ Below w.heap.size w w'
 | .ok f => ∃ u,e = .returned (.tuple #[.agg u,.int .i64 0]) ∧ FOwn w' w.heap.size u f ∧ Below w.heap.size w w'
theorem open_ne {l:List UInt8} {e:Nat} (h:Fr.open_ l = .error e):e ≠ 0:=by
 unfold Fr.open_ at h
 split at h
 ·injection h with h;omega
 ·split at h
  ·next h1 => injection h with h;rw [← h];exact h1
  ·split at h
   ·injection h with h;omega
   ·split at h
    ·cases h
    ·injection h with h;omega
theorem fown_sch {w W:World} {B:Nat} {f:Fr} {sp:Option Addr} {sc:Nat} (hk:Fr.norm f = f) (h1:f.kind = 1) (hs:SOwn W B #[.slice sp f.cols.length sc] f.cols) (hB:w.heap.size ≤ B):FOwn W w.heap.size #[.int .i64 1,.int .i64 f.number,.slice sp f.cols.length sc,.int .i64 0,.int .i64 0,.int .i64 0,.slice none 0 0,.int .i64 0,.int .i64 0,.int .i64 0,.slice none 0 0] f:=by
 have e:f = { Fr0 with kind:=1,number:=f.number,cols:=f.cols.map Col.fix }:=by
  have:=hk
  unfold Fr.norm at this
  rw [if_pos h1] at this
  exact this.symm
 have e1:f.seq = 0:=by rw [e];rfl
 have e2:f.first = 0:=by rw [e];rfl
 have e3:f.rows = 0:=by rw [e];rfl
 have e4:f.block = []:=by rw [e];rfl
 have e5:f.index = Idx0:=by rw [e];rfl
 refine ⟨sp,sc,none,0,none,0,?_,sown_low hs hB,?_,?_,?_,?_⟩
 ·unfold cells11
  rw [h1,e1,e2,e3,e4,e5]
  rfl
 ·rw [e4];exact has_nil _ _
 ·rw [e4];decide
 ·rw [e5];exact eown_nil _ _
 ·rw [e5];decide
theorem fown_dat {w W:World} {B:Nat} {f:Fr} {bp:Option Addr} {bc:Nat} (hk:Fr.norm f = f) (h1:f.kind = 2) (hs:Has W B (.slice bp f.block.length bc) f.block) (hl:f.block.length ≤ 2200) (hB:w.heap.size ≤ B):FOwn W w.heap.size #[.int .i64 2,.int .i64 f.number,.slice none 0 0,.int .i64 f.seq,.int .i64 f.first,.int .i64 f.rows,.slice bp f.block.length bc,.int .i64 0,.int .i64 0,.int .i64 0,.slice none 0 0] f:=by
 have e:f = { Fr0 with kind:=2,number:=f.number,seq:=f.seq,first:=f.first,rows:=f.rows,block:=f.block }:=by
  have:=hk
  unfold Fr.norm at this
  rw [if_neg (by omega),if_pos h1] at this
  exact this.symm
 have e4:f.cols = []:=by rw [e];rfl
 have e5:f.index = Idx0:=by rw [e];rfl
 refine ⟨none,0,bp,bc,none,0,?_,?_,hs.lower hB,hl,?_,?_⟩
 ·unfold cells11
  rw [h1,e4,e5]
  rfl
 ·rw [e4];exact sown_nil _ _
 ·rw [e5];exact eown_nil _ _
 ·rw [e5];decide
theorem fown_idx {w W:World} {B:Nat} {f:Fr} {ep:Option Addr} {ec:Nat} (hk:Fr.norm f = f) (h1:f.kind = 3) (hs:EOwn W B (.slice ep f.index.entries.length ec) f.index.entries) (hl:f.index.entries.length ≤ 64) (hB:w.heap.size ≤ B):FOwn W w.heap.size #[.int .i64 3,.int .i64 0,.slice none 0 0,.int .i64 0,.int .i64 0,.int .i64 0,.slice none 0 0,.int .i64 f.index.at_,.int .i64 f.index.frames,.int .i64 f.index.rows,.slice ep f.index.entries.length ec] f:=by
 have e:f = { Fr0 with kind:=3,index:=f.index }:=by
  have:=hk
  unfold Fr.norm at this
  rw [if_neg (by omega),if_neg (by omega)] at this
  exact this.symm
 have e0:f.number = 0:=by rw [e];rfl
 have e1:f.seq = 0:=by rw [e];rfl
 have e2:f.first = 0:=by rw [e];rfl
 have e3:f.rows = 0:=by rw [e];rfl
 have e4:f.block = []:=by rw [e];rfl
 have e5:f.cols = []:=by rw [e];rfl
 refine ⟨none,0,none,0,ep,ec,?_,?_,?_,?_,hs.low hB,hl⟩
 ·unfold cells11
  rw [h1,e0,e1,e2,e3,e4,e5]
  rfl
 ·rw [e5];exact sown_nil _ _
 ·rw [e4];exact has_nil _ _
 ·rw [e4];decide
theorem last11 {w w4:World} (hI:DecIn12 w w4 0) (c0 c1 c2 c3 c4 c5 c6 c7 c8 c9 c10:Value):((((((((((((w4.setCell ⟨w.heap.size,0,none⟩ (c0)).setCell ⟨w.heap.size,1,none⟩ (c1)).setCell ⟨w.heap.size,2,none⟩ (c2)).setCell ⟨w.heap.size,3,none⟩ (c3)).setCell ⟨w.heap.size,4,none⟩ (c4)).setCell ⟨w.heap.size,5,none⟩ (c5)).setCell ⟨w.heap.size,6,none⟩ (c6)).setCell ⟨w.heap.size,7,none⟩ (c7)).setCell ⟨w.heap.size,8,none⟩ (c8)).setCell ⟨w.heap.size,9,none⟩ (c9)).setCell ⟨w.heap.size,10,none⟩ (c10)).setCell ⟨w.heap.size + 1,0,none⟩ (.int .i64 0)).heap[w.heap.size]? = some (.cells #[c0,c1,c2,c3,c4,c5,c6,c7,c8,c9,c10] 30 (0,0)) ∧ ((((((((((((w4.setCell ⟨w.heap.size,0,none⟩ (c0)).setCell ⟨w.heap.size,1,none⟩ (c1)).setCell ⟨w.heap.size,2,none⟩ (c2)).setCell ⟨w.heap.size,3,none⟩ (c3)).setCell ⟨w.heap.size,4,none⟩ (c4)).setCell ⟨w.heap.size,5,none⟩ (c5)).setCell ⟨w.heap.size,6,none⟩ (c6)).setCell ⟨w.heap.size,7,none⟩ (c7)).setCell ⟨w.heap.size,8,none⟩ (c8)).setCell ⟨w.heap.size,9,none⟩ (c9)).setCell ⟨w.heap.size,10,none⟩ (c10)).setCell ⟨w.heap.size + 1,0,none⟩ (.int .i64 0)).cell? ⟨w.heap.size + 1,0,none⟩ = some (.int .i64 0) ∧ Aside (fun i => i = w.heap.size ∨ i = w.heap.size + 1) w4 ((((((((((((w4.setCell ⟨w.heap.size,0,none⟩ (c0)).setCell ⟨w.heap.size,1,none⟩ (c1)).setCell ⟨w.heap.size,2,none⟩ (c2)).setCell ⟨w.heap.size,3,none⟩ (c3)).setCell ⟨w.heap.size,4,none⟩ (c4)).setCell ⟨w.heap.size,5,none⟩ (c5)).setCell ⟨w.heap.size,6,none⟩ (c6)).setCell ⟨w.heap.size,7,none⟩ (c7)).setCell ⟨w.heap.size,8,none⟩ (c8)).setCell ⟨w.heap.size,9,none⟩ (c9)).setCell ⟨w.heap.size,10,none⟩ (c10)).setCell ⟨w.heap.size + 1,0,none⟩ (.int .i64 0)) ∧ Below w.heap.size w ((((((((((((w4.setCell ⟨w.heap.size,0,none⟩ (c0)).setCell ⟨w.heap.size,1,none⟩ (c1)).setCell ⟨w.heap.size,2,none⟩ (c2)).setCell ⟨w.heap.size,3,none⟩ (c3)).setCell ⟨w.heap.size,4,none⟩ (c4)).setCell ⟨w.heap.size,5,none⟩ (c5)).setCell ⟨w.heap.size,6,none⟩ (c6)).setCell ⟨w.heap.size,7,none⟩ (c7)).setCell ⟨w.heap.size,8,none⟩ (c8)).setCell ⟨w.heap.size,9,none⟩ (c9)).setCell ⟨w.heap.size,10,none⟩ (c10)).setCell ⟨w.heap.size + 1,0,none⟩ (.int .i64 0)):=by
 have hs:=hI.size
 have hA1:Aside (fun i => i = w.heap.size) w4 (((((((((((w4.setCell ⟨w.heap.size,0,none⟩ (c0)).setCell ⟨w.heap.size,1,none⟩ (c1)).setCell ⟨w.heap.size,2,none⟩ (c2)).setCell ⟨w.heap.size,3,none⟩ (c3)).setCell ⟨w.heap.size,4,none⟩ (c4)).setCell ⟨w.heap.size,5,none⟩ (c5)).setCell ⟨w.heap.size,6,none⟩ (c6)).setCell ⟨w.heap.size,7,none⟩ (c7)).setCell ⟨w.heap.size,8,none⟩ (c8)).setCell ⟨w.heap.size,9,none⟩ (c9)).setCell ⟨w.heap.size,10,none⟩ (c10)):=set11_aside w4 w.heap.size c0 c1 c2 c3 c4 c5 c6 c7 c8 c9 c10
 have hG1:(((((((((((w4.setCell ⟨w.heap.size,0,none⟩ (c0)).setCell ⟨w.heap.size,1,none⟩ (c1)).setCell ⟨w.heap.size,2,none⟩ (c2)).setCell ⟨w.heap.size,3,none⟩ (c3)).setCell ⟨w.heap.size,4,none⟩ (c4)).setCell ⟨w.heap.size,5,none⟩ (c5)).setCell ⟨w.heap.size,6,none⟩ (c6)).setCell ⟨w.heap.size,7,none⟩ (c7)).setCell ⟨w.heap.size,8,none⟩ (c8)).setCell ⟨w.heap.size,9,none⟩ (c9)).setCell ⟨w.heap.size,10,none⟩ (c10)).heap[w.heap.size]? = some (.cells #[c0,c1,c2,c3,c4,c5,c6,c7,c8,c9,c10] 30 (0,0)):=set11_block hI.b0 c0 c1 c2 c3 c4 c5 c6 c7 c8 c9 c10
 have hE1:(((((((((((w4.setCell ⟨w.heap.size,0,none⟩ (c0)).setCell ⟨w.heap.size,1,none⟩ (c1)).setCell ⟨w.heap.size,2,none⟩ (c2)).setCell ⟨w.heap.size,3,none⟩ (c3)).setCell ⟨w.heap.size,4,none⟩ (c4)).setCell ⟨w.heap.size,5,none⟩ (c5)).setCell ⟨w.heap.size,6,none⟩ (c6)).setCell ⟨w.heap.size,7,none⟩ (c7)).setCell ⟨w.heap.size,8,none⟩ (c8)).setCell ⟨w.heap.size,9,none⟩ (c9)).setCell ⟨w.heap.size,10,none⟩ (c10)).heap[w.heap.size + 1]? = some (.cells #[.int .i64 0] 31 (0,0)):=(hA1.block _ (blk_lt hI.b1) (by omega)).trans hI.b1
 have hA2:=aside_set (((((((((((w4.setCell ⟨w.heap.size,0,none⟩ (c0)).setCell ⟨w.heap.size,1,none⟩ (c1)).setCell ⟨w.heap.size,2,none⟩ (c2)).setCell ⟨w.heap.size,3,none⟩ (c3)).setCell ⟨w.heap.size,4,none⟩ (c4)).setCell ⟨w.heap.size,5,none⟩ (c5)).setCell ⟨w.heap.size,6,none⟩ (c6)).setCell ⟨w.heap.size,7,none⟩ (c7)).setCell ⟨w.heap.size,8,none⟩ (c8)).setCell ⟨w.heap.size,9,none⟩ (c9)).setCell ⟨w.heap.size,10,none⟩ (c10)) (w.heap.size + 1) 0 (.int .i64 0)
 have hA3:=(hA1.mono (G:=fun i => i = w.heap.size ∨ i = w.heap.size + 1) (fun _ _ h => .inl h)).trans hA2 (fun _ _ h => .inr h)
 exact ⟨(hA2.block _ (blk_lt hG1) (by omega)).trans hG1,blk_cell (blk_set hE1 0 _) 0,hA3,hI.below.trans (hA3.below (by omega) (fun k hk => by omega))⟩
end Go.Proofs.YtfcblnknoljkhaaGreatDoor
namespace Go.Proofs.YtfcblnknoljkhaaGreatDoor
open Go.RowKit
theorem decodeF_bad (er:Nat) (p:Option Addr) (c:Nat) (l:List UInt8) (hl:l.length ≤ 140737488351232) (hlc:l.length ≤ c) (w:World) (hv:Hv w) (h:At w p l) (mo:Fr.open_ l = .error er) :
  Calls Tryz.prog 14 #[.slice p l.length c] w (DecF w (Fr.dec l)):=by
 have hmf:∀ (fn:Fn) (first cap:Array Value) (w:World),(Instr.makeFunc fn first cap).run Tryz.prog w = .ok (.func fn first cap) w:=fun _ _ _ _ => rfl
 obtain ⟨r,hr⟩:∃ r,r = Fr.dec l:=⟨_,rfl⟩
 have HR:Hid (r = match Fr.open_ l with
  | .error e => .error e
  | .ok b => Fr.rdF (b.headD 0).toNat b.tail):=hr
 have HDe:=Lib.hid hr
 rw [← hr]
 obtain ⟨W0,hW0⟩:∃ W0,W0 = (w.alloc (.cells #[.int .i64 0,.int .i64 0,.slice none 0 0,.int .i64 0,.int .i64 0,.int .i64 0,.slice none 0 0,.int .i64 0,.int .i64 0,.int .i64 0,.slice none 0 0] 30)).alloc (.cells #[.int .i64 0] 31):=⟨_,rfl⟩
 have HI0:Hid (DecIn12 w W0 0):=by rw [hW0];exact decIn12_start w
 have HW0:Hid ((w.alloc (.cells #[.int .i64 0,.int .i64 0,.slice none 0 0,.int .i64 0,.int .i64 0,.int .i64 0,.slice none 0 0,.int .i64 0,.int .i64 0,.int .i64 0,.slice none 0 0] 30)).alloc (.cells #[.int .i64 0] 31) = W0):=by rw [hW0];exact rfl
 have HO:=Lib.hid (openF p c l hl hlc W0 (hv.next HI0.out.below) (h.on HI0.out.below))
 clear hr hW0 hv h
 rw [mo] at HO
 have hne:=open_ne mo
 have g0:((er:Int) != 0) = true:=by rw [bne_iff_ne];omega
 have HR2:Hid (r = .error er):=by show _ = _;rw [HR.out,mo]
 clear mo HR hne HDe
 go_enter_defers Tryz.func14,Tryz.ntmps14
 go_wp2_with fail
 rw [HW0.out]
 refine HO.out.mono ?_
 rintro e w1 ⟨rfl,hb⟩
 have hI1:=HI0.out.on hb
 have x0:w1.cell? ⟨w.heap.size,0,none⟩ = some (.int .i64 0):=blk_cell hI1.b0 0
 have xf0:=blk_free hI1.b0 0
 have x1:w1.cell? ⟨w.heap.size,1,none⟩ = some (.int .i64 0):=blk_cell hI1.b0 1
 have xf1:=blk_free hI1.b0 1
 have x2:w1.cell? ⟨w.heap.size,2,none⟩ = some (.slice none 0 0):=blk_cell hI1.b0 2
 have xf2:=blk_free hI1.b0 2
 have x3:w1.cell? ⟨w.heap.size,3,none⟩ = some (.int .i64 0):=blk_cell hI1.b0 3
 have xf3:=blk_free hI1.b0 3
 have x4:w1.cell? ⟨w.heap.size,4,none⟩ = some (.int .i64 0):=blk_cell hI1.b0 4
 have xf4:=blk_free hI1.b0 4
 have x5:w1.cell? ⟨w.heap.size,5,none⟩ = some (.int .i64 0):=blk_cell hI1.b0 5
 have xf5:=blk_free hI1.b0 5
 have x6:w1.cell? ⟨w.heap.size,6,none⟩ = some (.slice none 0 0):=blk_cell hI1.b0 6
 have xf6:=blk_free hI1.b0 6
 have x7:w1.cell? ⟨w.heap.size,7,none⟩ = some (.int .i64 0):=blk_cell hI1.b0 7
 have xf7:=blk_free hI1.b0 7
 have x8:w1.cell? ⟨w.heap.size,8,none⟩ = some (.int .i64 0):=blk_cell hI1.b0 8
 have xf8:=blk_free hI1.b0 8
 have x9:w1.cell? ⟨w.heap.size,9,none⟩ = some (.int .i64 0):=blk_cell hI1.b0 9
 have xf9:=blk_free hI1.b0 9
 have x10:w1.cell? ⟨w.heap.size,10,none⟩ = some (.slice none 0 0):=blk_cell hI1.b0 10
 have xf10:=blk_free hI1.b0 10
 have y0:w1.cell? ⟨w.heap.size + 1,0,none⟩ = some (.int .i64 0):=blk_cell hI1.b1 0
 have yf0:=blk_free hI1.b1 0
 have hI2:=hI1.setE er
 obtain ⟨W2,hW2⟩:∃ W2,W2 = (((((((((((((w1.setCell ⟨w.heap.size + 1,0,none⟩ (.int .i64 er)).setCell ⟨w.heap.size,0,none⟩ (.int .i64 0)).setCell ⟨w.heap.size,1,none⟩ (.int .i64 0)).setCell ⟨w.heap.size,2,none⟩ (.slice none 0 0)).setCell ⟨w.heap.size,3,none⟩ (.int .i64 0)).setCell ⟨w.heap.size,4,none⟩ (.int .i64 0)).setCell ⟨w.heap.size,5,none⟩ (.int .i64 0)).setCell ⟨w.heap.size,6,none⟩ (.slice none 0 0)).setCell ⟨w.heap.size,7,none⟩ (.int .i64 0)).setCell ⟨w.heap.size,8,none⟩ (.int .i64 0)).setCell ⟨w.heap.size,9,none⟩ (.int .i64 0)).setCell ⟨w.heap.size,10,none⟩ (.slice none 0 0)).setCell ⟨w.heap.size + 1,0,none⟩ (.int .i64 er)).drew:=⟨_,rfl⟩
 have hA1:Aside (fun i => i = w.heap.size) (w1.setCell ⟨w.heap.size + 1,0,none⟩ (.int .i64 er)) ((((((((((((w1.setCell ⟨w.heap.size + 1,0,none⟩ (.int .i64 er)).setCell ⟨w.heap.size,0,none⟩ (.int .i64 0)).setCell ⟨w.heap.size,1,none⟩ (.int .i64 0)).setCell ⟨w.heap.size,2,none⟩ (.slice none 0 0)).setCell ⟨w.heap.size,3,none⟩ (.int .i64 0)).setCell ⟨w.heap.size,4,none⟩ (.int .i64 0)).setCell ⟨w.heap.size,5,none⟩ (.int .i64 0)).setCell ⟨w.heap.size,6,none⟩ (.slice none 0 0)).setCell ⟨w.heap.size,7,none⟩ (.int .i64 0)).setCell ⟨w.heap.size,8,none⟩ (.int .i64 0)).setCell ⟨w.heap.size,9,none⟩ (.int .i64 0)).setCell ⟨w.heap.size,10,none⟩ (.slice none 0 0)):=set11_aside _ w.heap.size (.int .i64 0) (.int .i64 0) (.slice none 0 0) (.int .i64 0) (.int .i64 0) (.int .i64 0) (.slice none 0 0) (.int .i64 0) (.int .i64 0) (.int .i64 0) (.slice none 0 0)
 have hG1:((((((((((((w1.setCell ⟨w.heap.size + 1,0,none⟩ (.int .i64 er)).setCell ⟨w.heap.size,0,none⟩ (.int .i64 0)).setCell ⟨w.heap.size,1,none⟩ (.int .i64 0)).setCell ⟨w.heap.size,2,none⟩ (.slice none 0 0)).setCell ⟨w.heap.size,3,none⟩ (.int .i64 0)).setCell ⟨w.heap.size,4,none⟩ (.int .i64 0)).setCell ⟨w.heap.size,5,none⟩ (.int .i64 0)).setCell ⟨w.heap.size,6,none⟩ (.slice none 0 0)).setCell ⟨w.heap.size,7,none⟩ (.int .i64 0)).setCell ⟨w.heap.size,8,none⟩ (.int .i64 0)).setCell ⟨w.heap.size,9,none⟩ (.int .i64 0)).setCell ⟨w.heap.size,10,none⟩ (.slice none 0 0)).heap[w.heap.size]? = some (.cells #[.int .i64 0,.int .i64 0,.slice none 0 0,.int .i64 0,.int .i64 0,.int .i64 0,.slice none 0 0,.int .i64 0,.int .i64 0,.int .i64 0,.slice none 0 0] 30 (0,0)):=set11_block hI2.b0 (.int .i64 0) (.int .i64 0) (.slice none 0 0) (.int .i64 0) (.int .i64 0) (.int .i64 0) (.slice none 0 0) (.int .i64 0) (.int .i64 0) (.int .i64 0) (.slice none 0 0)
 have hE1:((((((((((((w1.setCell ⟨w.heap.size + 1,0,none⟩ (.int .i64 er)).setCell ⟨w.heap.size,0,none⟩ (.int .i64 0)).setCell ⟨w.heap.size,1,none⟩ (.int .i64 0)).setCell ⟨w.heap.size,2,none⟩ (.slice none 0 0)).setCell ⟨w.heap.size,3,none⟩ (.int .i64 0)).setCell ⟨w.heap.size,4,none⟩ (.int .i64 0)).setCell ⟨w.heap.size,5,none⟩ (.int .i64 0)).setCell ⟨w.heap.size,6,none⟩ (.slice none 0 0)).setCell ⟨w.heap.size,7,none⟩ (.int .i64 0)).setCell ⟨w.heap.size,8,none⟩ (.int .i64 0)).setCell ⟨w.heap.size,9,none⟩ (.int .i64 0)).setCell ⟨w.heap.size,10,none⟩ (.slice none 0 0)).heap[w.heap.size + 1]? = some (.cells #[.int .i64 er] 31 (0,0)):=(hA1.block _ (blk_lt hI2.b1) (by omega)).trans hI2.b1
 have hA2:=aside_set ((((((((((((w1.setCell ⟨w.heap.size + 1,0,none⟩ (.int .i64 er)).setCell ⟨w.heap.size,0,none⟩ (.int .i64 0)).setCell ⟨w.heap.size,1,none⟩ (.int .i64 0)).setCell ⟨w.heap.size,2,none⟩ (.slice none 0 0)).setCell ⟨w.heap.size,3,none⟩ (.int .i64 0)).setCell ⟨w.heap.size,4,none⟩ (.int .i64 0)).setCell ⟨w.heap.size,5,none⟩ (.int .i64 0)).setCell ⟨w.heap.size,6,none⟩ (.slice none 0 0)).setCell ⟨w.heap.size,7,none⟩ (.int .i64 0)).setCell ⟨w.heap.size,8,none⟩ (.int .i64 0)).setCell ⟨w.heap.size,9,none⟩ (.int .i64 0)).setCell ⟨w.heap.size,10,none⟩ (.slice none 0 0)) (w.heap.size + 1) 0 (.int .i64 er)
 have HF1:Hid (W2.heap[w.heap.size]? = some (.cells #[.int .i64 0,.int .i64 0,.slice none 0 0,.int .i64 0,.int .i64 0,.int .i64 0,.slice none 0 0,.int .i64 0,.int .i64 0,.int .i64 0,.slice none 0 0] 30 (0,0))):=by
  show _ = _
  rw [hW2,heap_drew12]
  exact (hA2.block _ (blk_lt hG1) (by omega)).trans hG1
 have HF2:Hid (W2.cell? ⟨w.heap.size + 1,0,none⟩ = some (.int .i64 er)):=by
  have:W2.heap[w.heap.size + 1]? = some (.cells #[.int .i64 er] 31 (0,0)):=by rw [hW2,heap_drew12];exact blk_set hE1 0 _
  exact blk_cell this 0
 have HF3:Hid (Below w.heap.size w W2):=by
  have hs:=hI2.size
  rw [hW2]
  exact (hI2.below.trans (((hA1.mono (G:=fun i => i = w.heap.size ∨ i = w.heap.size + 1) (fun _ _ h => .inl h)).trans hA2 (fun _ _ h => .inr h)).below (by omega) (fun k hk => by omega))).drew
 have HW2:Hid ((((((((((((((w1.setCell ⟨w.heap.size + 1,0,none⟩ (.int .i64 er)).setCell ⟨w.heap.size,0,none⟩ (.int .i64 0)).setCell ⟨w.heap.size,1,none⟩ (.int .i64 0)).setCell ⟨w.heap.size,2,none⟩ (.slice none 0 0)).setCell ⟨w.heap.size,3,none⟩ (.int .i64 0)).setCell ⟨w.heap.size,4,none⟩ (.int .i64 0)).setCell ⟨w.heap.size,5,none⟩ (.int .i64 0)).setCell ⟨w.heap.size,6,none⟩ (.slice none 0 0)).setCell ⟨w.heap.size,7,none⟩ (.int .i64 0)).setCell ⟨w.heap.size,8,none⟩ (.int .i64 0)).setCell ⟨w.heap.size,9,none⟩ (.int .i64 0)).setCell ⟨w.heap.size,10,none⟩ (.slice none 0 0)).setCell ⟨w.heap.size + 1,0,none⟩ (.int .i64 er)).drew = W2):=by rw [hW2];exact rfl
 clear hI1 hI2 hb hW2 hA1 hG1 hE1 hA2 HO HI0 HW0
 go_wp2_with fail
 refine wp_calm12 ?_
 go_region_law (fail)
 all_goals
  rw [calm12_normal]
  rw [HW2.out]
  go_wp2
  refine ⟨_,results_rowcell rfl _ _ w.heap.size (w.heap.size + 1) _ #[.int .i64 0,.int .i64 0,.slice none 0 0,.int .i64 0,.int .i64 0,.int .i64 0,.slice none 0 0,.int .i64 0,.int .i64 0,.int .i64 0,.slice none 0 0] _ _ (er:Int) rfl HF1.out Tryz.underlying30 rfl (by kernel_rfl) rfl HF2.out Tryz.underlying31,?_⟩
  rw [HR2.out]
  exact ⟨rfl,HF3.out⟩
end Go.Proofs.YtfcblnknoljkhaaGreatDoor
namespace Go.Proofs.YtfcblnknoljkhaaGreatDoor
open Go.RowKit
theorem decodeF_ok (b:List UInt8) (p:Option Addr) (c:Nat) (l:List UInt8) (hl:l.length ≤ 140737488351232) (hlc:l.length ≤ c) (w:World) (hv:Hv w) (h:At w p l) (mo:Fr.open_ l = .ok b) :
  Calls Tryz.prog 14 #[.slice p l.length c] w (DecF w (Fr.dec l)):=by
 have hmf:∀ (fn:Fn) (first cap:Array Value) (w:World),(Instr.makeFunc fn first cap).run Tryz.prog w = .ok (.func fn first cap) w:=fun _ _ _ _ => rfl
 obtain ⟨r,hr⟩:∃ r,r = Fr.dec l:=⟨_,rfl⟩
 have HR:Hid (r = match Fr.open_ l with
  | .error e => .error e
  | .ok b => Fr.rdF (b.headD 0).toNat b.tail):=hr
 have HDe:=Lib.hid hr
 rw [← hr]
 obtain ⟨W0,hW0⟩:∃ W0,W0 = (w.alloc (.cells #[.int .i64 0,.int .i64 0,.slice none 0 0,.int .i64 0,.int .i64 0,.int .i64 0,.slice none 0 0,.int .i64 0,.int .i64 0,.int .i64 0,.slice none 0 0] 30)).alloc (.cells #[.int .i64 0] 31):=⟨_,rfl⟩
 have HI0:Hid (DecIn12 w W0 0):=by rw [hW0];exact decIn12_start w
 have HW0:Hid ((w.alloc (.cells #[.int .i64 0,.int .i64 0,.slice none 0 0,.int .i64 0,.int .i64 0,.int .i64 0,.slice none 0 0,.int .i64 0,.int .i64 0,.int .i64 0,.slice none 0 0] 30)).alloc (.cells #[.int .i64 0] 31) = W0):=by rw [hW0];exact rfl
 have HO:=Lib.hid (openF p c l hl hlc W0 (hv.next HI0.out.below) (h.on HI0.out.below))
 -- a panic that goes through the door
 have HDoor:Hid (∀ (er:Nat) (W2:World) (y:Int),r = .error er → DecIn12 w W2 y → ∀ (tmps:Array Value) (ds:List Deferred),tmps.getD 2 undef = .pointer (some ⟨w.heap.size,0,none⟩) → tmps.getD 3 undef = .pointer (some ⟨w.heap.size + 1,0,none⟩) → ds = [{ target:=.fn (.func 26) #[.pointer (some ⟨w.heap.size,0,none⟩),.pointer (some ⟨w.heap.size + 1,0,none⟩)],args:=#[] }] → bodyPostD Tryz.prog Tryz.f14 (DecF w r) (Exit.panic (errV er)) { tmps:=tmps,defers:=ds } W2):=by
  intro er W2 y he hI tmps ds h2 h3 hds
  subst hds
  refine leaves_cons (f:=26) (args:=#[.pointer (some ⟨w.heap.size,0,none⟩),.pointer (some ⟨w.heap.size + 1,0,none⟩)]) (by simp) (by simp [go_sem]) ?_
  refine (catch12_panicking w.heap.size (w.heap.size + 1) er y W2 hI.b0 hI.b1 (by omega)).mono ?_
  rintro e u' w'' ⟨rfl,rfl,k1,k2,k3⟩
  refine ⟨_,results_rowcell rfl tmps _ w.heap.size (w.heap.size + 1) _ #[.int .i64 0,.int .i64 0,.slice none 0 0,.int .i64 0,.int .i64 0,.int .i64 0,.slice none 0 0,.int .i64 0,.int .i64 0,.int .i64 0,.slice none 0 0] _ _ (er:Int) h2 k1 Tryz.underlying30 rfl (by kernel_rfl) h3 (blk_cell k2 0) Tryz.underlying31,?_⟩
  rw [he]
  exact ⟨rfl,hI.below.trans (k3.below (by have:=hI.size;omega) (fun k hk => by omega))⟩
 -- the way out without one
 have HEnd:Hid (∀ (W3:World) (u:Array Value) (f:Fr),r = .ok f → W3.heap[w.heap.size]? = some (.cells u 30 (0,0)) → u.size = 11 → W3.cell? ⟨w.heap.size + 1,0,none⟩ = some (.int .i64 0) → FOwn W3 w.heap.size u f → Below w.heap.size w W3 → ∀ (tmps:Array Value) (ds:List Deferred),tmps.getD 2 undef = .pointer (some ⟨w.heap.size,0,none⟩) → tmps.getD 3 undef = .pointer (some ⟨w.heap.size + 1,0,none⟩) → ds = [{ target:=.fn (.func 26) #[.pointer (some ⟨w.heap.size,0,none⟩),.pointer (some ⟨w.heap.size + 1,0,none⟩)],args:=#[] }] → bodyPostD Tryz.prog Tryz.f14 (DecF w r) Exit.ret { tmps:=tmps,defers:=ds } W3):=by
  intro W3 u f he hG hu hE hF hB tmps ds h2 h3 hds
  subst hds
  refine leaves_cons (f:=26) (args:=#[.pointer (some ⟨w.heap.size,0,none⟩),.pointer (some ⟨w.heap.size + 1,0,none⟩)]) (by simp) (by simp [go_sem]) ?_
  refine (catch12_idle ⟨w.heap.size,0,none⟩ ⟨w.heap.size + 1,0,none⟩ _).mono ?_
  rintro e u' w'' ⟨rfl,rfl,rfl⟩
  refine ⟨_,results_rowcell rfl tmps _ w.heap.size (w.heap.size + 1) _ u _ _ 0 h2 hG Tryz.underlying30 rfl (by rw [hu];kernel_rfl) h3 hE Tryz.underlying31,?_⟩
  rw [he]
  exact ⟨u,rfl,hF,hB⟩
 clear hr hW0 hv h
 rw [mo] at HO
 obtain ⟨hl22,hst,hb1⟩:=Fr.open_ok mo
 obtain ⟨x,t,rfl⟩:∃ x t,b = x :: t:=by
  cases b with
  | nil => simp at hb1
  | cons x t => exact ⟨x,t,rfl⟩
 have HR2:Hid (r = Fr.rdF x.toNat t):=by show _ = _;rw [HR.out,mo];rfl
 have htl:t.length ≤ 2200:=by
  have h1:=(Cob.stuff_length (Fr.check (x :: t))).1
  rw [hst,Fr.check_length,List.length_cons] at h1
  omega
 have hx256:=x.toNat_lt
 clear mo HR hst hb1
 go_enter_defers Tryz.func14,Tryz.ntmps14
 go_wp2_with fail
 rw [HW0.out]
 refine HO.out.mono ?_
 rintro e w1 ⟨g,o,cap,rfl,hat,hcap,hg,hb⟩
 have hI1:=HI0.out.on hb
 have hsI:=hI1.size
 have y0:w1.cell? ⟨w.heap.size + 1,0,none⟩ = some (.int .i64 0):=blk_cell hI1.b1 0
 have yf0:=blk_free hI1.b1 0
 have hI2:=hI1.setE 0
 have hsW0:=HI0.out.size
 obtain ⟨gb,go',hgo,hgl,hcs⟩:=at_some hat (by simp)
 injection hgo with hgo
 injection hgo with hgo1 hgo2
 subst hgo1 hgo2
 have z0:w1.cell? ⟨g,o,none⟩ = some (.int .u8 (x.toNat:Int)):=hcs 0 (by simp)
 rw [List.length_cons] at hcap
 have s1:∀ w',(Instr.slice 25 (.slice (some ⟨g,o,none⟩) (t.length + 1) cap) (some (.int .i64 1)) none none).run Tryz.prog w' = .ok (.slice (cutP (some ⟨g,o,none⟩) 1 cap) t.length (cap - 1)) w':=fun w' => by
  have:=run_cut_l (some ⟨g,o,none⟩) (t.length + 1) cap 1 (by omega) w'
  rw [Nat.add_sub_cancel] at this
  exact this
 obtain ⟨W2,hW2⟩:∃ W2,W2 = (w1.setCell ⟨w.heap.size + 1,0,none⟩ (.int .i64 0)).alloc (.cells #[.slice (cutP (some ⟨g,o,none⟩) 1 cap) t.length (cap - 1)] 73):=⟨_,rfl⟩
 have hsE:(w1.setCell ⟨w.heap.size + 1,0,none⟩ (.int .i64 0)).heap.size = w1.heap.size:=by simp [World.setCell]
 have hbE:Below (w1.setCell ⟨w.heap.size + 1,0,none⟩ (.int .i64 0)).heap.size (w1.setCell ⟨w.heap.size + 1,0,none⟩ (.int .i64 0)) W2:=by rw [hW2];exact (Below.refl _ _).alloc (Nat.le_refl _) _
 have HI2:Hid (DecIn12 w W2 0):=hI2.on hbE
 have hz2:W2.heap.size = w1.heap.size + 1:=by rw [hW2];simp [hsE]
 have hae:Aside (fun i => i = w.heap.size + 1) w1 W2:=by
  have h1:=aside_set w1 (w.heap.size + 1) 0 (.int .i64 0)
  exact h1.trans (aside_new hbE (fun i => i = w.heap.size + 1)) (fun _ _ h => h)
 have z2:W2.cell? ⟨g,o,none⟩ = some (.int .u8 (x.toNat:Int)):=(hae.cell (p:=⟨g,o,none⟩) hgl (by show ¬ g = _;omega)).trans z0
 have hat2:At W2 (some ⟨g,o,none⟩) (x :: t):=hat.aside hae (fun b o hp => by injection hp with hp;injection hp with hp1 _;omega)
 have HRd:Hid (RdrF W2 w1.heap.size w1.heap.size t):=by
  refine ⟨⟨cutP (some ⟨g,o,none⟩) 1 cap,cap - 1,?_,?_,by omega,fun _ => cutP_block (fun a ha => by injection ha with ha;rw [← ha];exact hgl)⟩,htl,Nat.le_refl _⟩
  ·rw [hW2]
   have:=blk_new (w1.setCell ⟨w.heap.size + 1,0,none⟩ (.int .i64 0)) (.cells #[.slice (cutP (some ⟨g,o,none⟩) 1 cap) t.length (cap - 1)] 73)
   rw [hsE] at this
   exact this
  ·have:=hat2.cut 1 cap (by simpa using hcap)
   simpa using this
 have HF:=Lib.hid (fieldsF x.toNat t w1.heap.size w1.heap.size W2 HRd.out)
 obtain ⟨rf,hrf⟩:∃ rf,rf = Fr.rdF x.toNat t:=⟨_,rfl⟩
 rw [← hrf] at HF HR2
 have HRf:=Lib.hid hrf
 have HWe:Hid ((w1.setCell ⟨w.heap.size + 1,0,none⟩ (.int .i64 0)).alloc (.cells #[.slice (cutP (some ⟨g,o,none⟩) 1 cap) t.length (cap - 1)] 73) = W2):=by rw [hW2];exact rfl
 rw [List.length_cons]
 clear hI1 hI2 hb hat hcs hat2 hae hbE hW2 HO hrf
 go_wp2_with fail
 rw [HWe.out]
 refine HF.out.mono ?_
 intro e w3 hh
 cases rf with
 | error er =>
  obtain ⟨he,ha⟩:=hh.bad
  subst he
  have HI3:=Lib.hid (HI2.out.step ha (by omega))
  clear hh ha HF
  go_wp2
  exact HDoor.out er w3 _ HR2.out HI3.out _ _ rfl rfl rfl
 | ok f =>
  obtain ⟨v,he,hv,ha⟩:=hh.good
  subst he
  obtain ⟨-,-,q3,q4,q5,-⟩:=Fr.rdF_ok HRf.out.symm
  have HI3:=Lib.hid (HI2.out.step ha (by omega))
  have hs3:=ha.size
  clear hh ha HF HRf HDoor HRd
  rcases hv with ⟨hk,vx,rfl,hp⟩ | ⟨hk,vx,rfl,hp⟩ | ⟨hk,vx,rfl,hp⟩
  ·obtain ⟨sp,sc,rfl,hp⟩:=hp
   have HP:=Lib.hid hp
   have HC:=Lib.hid (frameOf_1 f.number sp f.cols.length sc w3)
   have HQ:=Lib.hid (And.intro hk (And.intro q3 (And.intro q4 q5)))
   clear hp hk q3 q4 q5
   go_wp2_with fail
   refine HC.out.mono ?_
   rintro e w4 ⟨rfl,hb⟩
   have hI4:=HI3.out.on hb
   have HB4:=Lib.hid hb
   have hs4:=hb.size
   have x0:w4.cell? ⟨w.heap.size,0,none⟩ = some (.int .i64 0):=blk_cell hI4.b0 0
   have xf0:=blk_free hI4.b0 0
   have x1:w4.cell? ⟨w.heap.size,1,none⟩ = some (.int .i64 0):=blk_cell hI4.b0 1
   have xf1:=blk_free hI4.b0 1
   have x2:w4.cell? ⟨w.heap.size,2,none⟩ = some (.slice none 0 0):=blk_cell hI4.b0 2
   have xf2:=blk_free hI4.b0 2
   have x3:w4.cell? ⟨w.heap.size,3,none⟩ = some (.int .i64 0):=blk_cell hI4.b0 3
   have xf3:=blk_free hI4.b0 3
   have x4:w4.cell? ⟨w.heap.size,4,none⟩ = some (.int .i64 0):=blk_cell hI4.b0 4
   have xf4:=blk_free hI4.b0 4
   have x5:w4.cell? ⟨w.heap.size,5,none⟩ = some (.int .i64 0):=blk_cell hI4.b0 5
   have xf5:=blk_free hI4.b0 5
   have x6:w4.cell? ⟨w.heap.size,6,none⟩ = some (.slice none 0 0):=blk_cell hI4.b0 6
   have xf6:=blk_free hI4.b0 6
   have x7:w4.cell? ⟨w.heap.size,7,none⟩ = some (.int .i64 0):=blk_cell hI4.b0 7
   have xf7:=blk_free hI4.b0 7
   have x8:w4.cell? ⟨w.heap.size,8,none⟩ = some (.int .i64 0):=blk_cell hI4.b0 8
   have xf8:=blk_free hI4.b0 8
   have x9:w4.cell? ⟨w.heap.size,9,none⟩ = some (.int .i64 0):=blk_cell hI4.b0 9
   have xf9:=blk_free hI4.b0 9
   have x10:w4.cell? ⟨w.heap.size,10,none⟩ = some (.slice none 0 0):=blk_cell hI4.b0 10
   have xf10:=blk_free hI4.b0 10
   have e0:w4.cell? ⟨w.heap.size + 1,0,none⟩ = some (.int .i64 0):=blk_cell hI4.b1 0
   have ef0:=blk_free hI4.b1 0
   have HLs:=Lib.hid (last11 hI4 (.int .i64 1) (.int .i64 f.number) (.slice sp f.cols.length sc) (.int .i64 0) (.int .i64 0) (.int .i64 0) (.slice none 0 0) (.int .i64 0) (.int .i64 0) (.int .i64 0) (.slice none 0 0))
   clear hb hI4 HC
   go_wp2
   obtain ⟨k1,k2,k3,k4⟩:=HLs.out
   obtain ⟨hk,q3,q4,q5⟩:=HQ.out
   exact HEnd.out _ _ f HR2.out k1 rfl k2 (fown_sch q5 hk (sown_keep (sown_keep HP.out (aside_new HB4.out (fun i => i = w.heap.size ∨ i = w.heap.size + 1)) (fun _ h1 h2 h3 => by omega)) k3 (fun _ h1 h2 h3 => by omega)) (by omega)) k4 _ _ rfl rfl rfl
  ·obtain ⟨bp,bc,rfl,hp⟩:=hp
   have HP:=Lib.hid hp
   have HC:=Lib.hid (frameOf_2 f.number f.seq f.first f.rows bp f.block.length bc w3)
   have HQ:=Lib.hid (And.intro hk (And.intro q3 (And.intro q4 q5)))
   clear hp hk q3 q4 q5
   go_wp2_with fail
   refine HC.out.mono ?_
   rintro e w4 ⟨rfl,hb⟩
   have hI4:=HI3.out.on hb
   have HB4:=Lib.hid hb
   have hs4:=hb.size
   have x0:w4.cell? ⟨w.heap.size,0,none⟩ = some (.int .i64 0):=blk_cell hI4.b0 0
   have xf0:=blk_free hI4.b0 0
   have x1:w4.cell? ⟨w.heap.size,1,none⟩ = some (.int .i64 0):=blk_cell hI4.b0 1
   have xf1:=blk_free hI4.b0 1
   have x2:w4.cell? ⟨w.heap.size,2,none⟩ = some (.slice none 0 0):=blk_cell hI4.b0 2
   have xf2:=blk_free hI4.b0 2
   have x3:w4.cell? ⟨w.heap.size,3,none⟩ = some (.int .i64 0):=blk_cell hI4.b0 3
   have xf3:=blk_free hI4.b0 3
   have x4:w4.cell? ⟨w.heap.size,4,none⟩ = some (.int .i64 0):=blk_cell hI4.b0 4
   have xf4:=blk_free hI4.b0 4
   have x5:w4.cell? ⟨w.heap.size,5,none⟩ = some (.int .i64 0):=blk_cell hI4.b0 5
   have xf5:=blk_free hI4.b0 5
   have x6:w4.cell? ⟨w.heap.size,6,none⟩ = some (.slice none 0 0):=blk_cell hI4.b0 6
   have xf6:=blk_free hI4.b0 6
   have x7:w4.cell? ⟨w.heap.size,7,none⟩ = some (.int .i64 0):=blk_cell hI4.b0 7
   have xf7:=blk_free hI4.b0 7
   have x8:w4.cell? ⟨w.heap.size,8,none⟩ = some (.int .i64 0):=blk_cell hI4.b0 8
   have xf8:=blk_free hI4.b0 8
   have x9:w4.cell? ⟨w.heap.size,9,none⟩ = some (.int .i64 0):=blk_cell hI4.b0 9
   have xf9:=blk_free hI4.b0 9
   have x10:w4.cell? ⟨w.heap.size,10,none⟩ = some (.slice none 0 0):=blk_cell hI4.b0 10
   have xf10:=blk_free hI4.b0 10
   have e0:w4.cell? ⟨w.heap.size + 1,0,none⟩ = some (.int .i64 0):=blk_cell hI4.b1 0
   have ef0:=blk_free hI4.b1 0
   have HLs:=Lib.hid (last11 hI4 (.int .i64 2) (.int .i64 f.number) (.slice none 0 0) (.int .i64 f.seq) (.int .i64 f.first) (.int .i64 f.rows) (.slice bp f.block.length bc) (.int .i64 0) (.int .i64 0) (.int .i64 0) (.slice none 0 0))
   clear hb hI4 HC
   go_wp2
   obtain ⟨k1,k2,k3,k4⟩:=HLs.out
   obtain ⟨hk,q3,q4,q5⟩:=HQ.out
   have hfl:f.block.length ≤ 2200:=by
    have h1:=congrArg List.length q4
    unfold Fr.fields at h1
    rw [if_neg (by omega),if_pos hk,List.length_append] at h1
    omega
   exact HEnd.out _ _ f HR2.out k1 rfl k2 (fown_dat q5 hk ((HP.out.on HB4.out).aside k3 (fun k hk hc => by have:=(HP.out.lt k hk).1;omega)) hfl (by omega)) k4 _ _ rfl rfl rfl
  ·obtain ⟨ep,ec,rfl,hp⟩:=hp
   have HP:=Lib.hid hp
   have HC:=Lib.hid (frameOf_3 f.index.at_ f.index.frames f.index.rows ep f.index.entries.length ec w3)
   have HQ:=Lib.hid (And.intro hk (And.intro q3 (And.intro q4 q5)))
   clear hp hk q3 q4 q5
   go_wp2_with fail
   refine HC.out.mono ?_
   rintro e w4 ⟨rfl,hb⟩
   have hI4:=HI3.out.on hb
   have HB4:=Lib.hid hb
   have hs4:=hb.size
   have x0:w4.cell? ⟨w.heap.size,0,none⟩ = some (.int .i64 0):=blk_cell hI4.b0 0
   have xf0:=blk_free hI4.b0 0
   have x1:w4.cell? ⟨w.heap.size,1,none⟩ = some (.int .i64 0):=blk_cell hI4.b0 1
   have xf1:=blk_free hI4.b0 1
   have x2:w4.cell? ⟨w.heap.size,2,none⟩ = some (.slice none 0 0):=blk_cell hI4.b0 2
   have xf2:=blk_free hI4.b0 2
   have x3:w4.cell? ⟨w.heap.size,3,none⟩ = some (.int .i64 0):=blk_cell hI4.b0 3
   have xf3:=blk_free hI4.b0 3
   have x4:w4.cell? ⟨w.heap.size,4,none⟩ = some (.int .i64 0):=blk_cell hI4.b0 4
   have xf4:=blk_free hI4.b0 4
   have x5:w4.cell? ⟨w.heap.size,5,none⟩ = some (.int .i64 0):=blk_cell hI4.b0 5
   have xf5:=blk_free hI4.b0 5
   have x6:w4.cell? ⟨w.heap.size,6,none⟩ = some (.slice none 0 0):=blk_cell hI4.b0 6
   have xf6:=blk_free hI4.b0 6
   have x7:w4.cell? ⟨w.heap.size,7,none⟩ = some (.int .i64 0):=blk_cell hI4.b0 7
   have xf7:=blk_free hI4.b0 7
   have x8:w4.cell? ⟨w.heap.size,8,none⟩ = some (.int .i64 0):=blk_cell hI4.b0 8
   have xf8:=blk_free hI4.b0 8
   have x9:w4.cell? ⟨w.heap.size,9,none⟩ = some (.int .i64 0):=blk_cell hI4.b0 9
   have xf9:=blk_free hI4.b0 9
   have x10:w4.cell? ⟨w.heap.size,10,none⟩ = some (.slice none 0 0):=blk_cell hI4.b0 10
   have xf10:=blk_free hI4.b0 10
   have e0:w4.cell? ⟨w.heap.size + 1,0,none⟩ = some (.int .i64 0):=blk_cell hI4.b1 0
   have ef0:=blk_free hI4.b1 0
   have HLs:=Lib.hid (last11 hI4 (.int .i64 3) (.int .i64 0) (.slice none 0 0) (.int .i64 0) (.int .i64 0) (.int .i64 0) (.slice none 0 0) (.int .i64 f.index.at_) (.int .i64 f.index.frames) (.int .i64 f.index.rows) (.slice ep f.index.entries.length ec))
   clear hb hI4 HC
   go_wp2
   obtain ⟨k1,k2,k3,k4⟩:=HLs.out
   obtain ⟨hk,q3,q4,q5⟩:=HQ.out
   have hfl:f.index.entries.length ≤ 64:=by
    unfold Fr.err0 at q3
    rw [if_neg (by omega),if_neg (by omega),if_pos hk] at q3
    unfold Fr.idxErr at q3
    split at q3
    ·omega
    ·split at q3
     ·omega
     ·omega
   exact HEnd.out _ _ f HR2.out k1 rfl k2 (fown_idx q5 hk ((HP.out.on HB4.out).aside k3 (fun k hk hc => by have:=(HP.out.lt k hk).1;omega)) hfl (by omega)) k4 _ _ rfl rfl rfl
theorem decodeF (p:Option Addr) (c:Nat) (l:List UInt8) (hl:l.length ≤ 140737488351232) (hlc:l.length ≤ c) (w:World) (hv:Hv w) (h:At w p l) :
  Calls Tryz.prog 14 #[.slice p l.length c] w (DecF w (Fr.dec l)):=by
 cases mo:Fr.open_ l with
 | error er => exact decodeF_bad er p c l hl hlc w hv h mo
 | ok b => exact decodeF_ok b p c l hl hlc w hv h mo
end Go.Proofs.YtfcblnknoljkhaaGreatDoor
