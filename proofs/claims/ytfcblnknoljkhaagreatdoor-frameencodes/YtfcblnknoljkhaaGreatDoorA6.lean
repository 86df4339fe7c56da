import Derived.Test.YtfcblnknoljkhaaGreatDoorA1
import Derived.Test.YtfcblnknoljkhaaGreatDoorB04
import Derived.Laws.StructEq
import Derived.Test.YtfcblnknoljkhaaGreatDoorK12F
import Derived.Test.YtfcblnknoljkhaaGreatDoorA4
import Derived.Test.YtfcblnknoljkhaaGreatDoorB14
import Derived.Handy
set_option maxRecDepth 100000
set_option maxHeartbeats 4000000
namespace Go.Proofs.YtfcblnknoljkhaaGreatDoor
open Go.RowKit
theorem tup_take_succ (es fs:List Ent) (i:Nat) (h1:i < es.length) (h2:i < fs.length) (h:(es.take i).map Ent.tup = (fs.take i).map Ent.tup) (he:es[i].tup = fs[i].tup):(es.take (i + 1)).map Ent.tup = (fs.take (i + 1)).map Ent.tup:=by
 rw [List.take_succ_eq_append_getElem h1,List.take_succ_eq_append_getElem h2,List.map_append,List.map_append,h]
 simp [he]
theorem entsEqK (p q:Option Addr) (c d:Nat) (es fs:List Ent) (hl:es.length * 24 ≤ 140737488351232) (w:World) (h1:Ents w p es) (h2:Ents w q fs) :
  Calls Tryz.prog 149 #[.slice p es.length c,.slice q fs.length d] w fun e w' => e = .returned (.bool (decide (es.map Ent.tup = fs.map Ent.tup))) ∧ ∃ n,w' = w.drewN n:=by
 obtain ⟨R,hR⟩:∃ R,R = decide (es.map Ent.tup = fs.map Ent.tup):=⟨_,rfl⟩
 rw [← hR]
 have HR:=Lib.hid hR
 have H1:=Lib.hid h1
 have H2:=Lib.hid h2
 clear hR h1 h2
 by_cases hlen:es.length = fs.length
 ·have g0:((es.length:Int) != (fs.length:Int)) = false:=by rw [bne_eq_false_iff_eq];omega
  have HL:=Lib.hid hlen
  obtain ⟨m,hm⟩:∃ m,m = fs.length:=⟨_,rfl⟩
  rw [← hm] at g0 ⊢
  have hm2:m = es.length:=by omega
  subst hm2
  clear hm g0 hlen
  go_enter Tryz.func149,Tryz.ntmps149
  go_wp2
  go_loopw [13] (fun v13 wr => ∃ i n:Nat,i ≤ es.length ∧ v13 = .int .i64 i ∧ wr = w.drewN n ∧ Hid ((es.take i).map Ent.tup = (fs.take i).map Ent.tup)) (fun v13 _ => es.length - (intOf v13).toNat)
  case atStart => exact ⟨0,0,by omega,rfl,rfl,rfl⟩
  case round =>
   obtain ⟨i,n,hi,rfl,rfl,HT⟩:=hrel
   by_cases hlt:i < es.length
   ·have hlt':(i:Int) < (es.length:Int):=by omega
    have hlt2:i < fs.length:=by have:=HL.out;omega
    obtain ⟨b1,o1,hp,-,x0,x1,x2⟩:=H1.out i hlt
    obtain ⟨b2,o2,hq,-,y0,y1,y2⟩:=H2.out i hlt2
    subst hp hq
    by_cases he:es[i].tup = fs[i].tup
    ·have HT2:=Lib.hid (tup_take_succ es fs i hlt hlt2 HT.out he)
     simp only [Ent.tup,Prod.mk.injEq] at he
     obtain ⟨e1,e2,e3⟩:=he
     rw [← e1] at y0
     rw [← e2] at y1
     rw [← e3] at y2
     generalize es[i].at_ = a at x0 y0
     generalize es[i].row = b at x1 y1
     generalize es[i].sch = c' at x2 y2
     clear e1 e2 e3 HT
     go_wp2
     go_quiet (fail)
     go_wp2
     go_roundw
     case rel => exact ⟨i + 1,_,by omega,by go_num,rfl,HT2⟩
     case measure => simp [intOf];omega
    ·have HF:Hid (R = false):=by
      show _ = _
      rw [HR.out,decide_eq_false]
      intro hc
      have h5:=tup_map_inj hc
      subst h5
      exact he rfl
     have hne:(¬ es[i].at_ = fs[i].at_) ∨ (es[i].at_ = fs[i].at_ ∧ ¬ es[i].row = fs[i].row) ∨ (es[i].at_ = fs[i].at_ ∧ es[i].row = fs[i].row ∧ ¬ es[i].sch = fs[i].sch):=by
      by_cases h1:es[i].at_ = fs[i].at_
      ·by_cases h2:es[i].row = fs[i].row
       ·by_cases h3:es[i].sch = fs[i].sch
        ·exact absurd (by simp only [Ent.tup,h1,h2,h3]) he
        ·exact .inr (.inr ⟨h1,h2,h3⟩)
       ·exact .inr (.inl ⟨h1,h2⟩)
      ·exact .inl h1
     generalize es[i].at_ = a at x0 hne
     generalize es[i].row = b at x1 hne
     generalize es[i].sch = c' at x2 hne
     generalize fs[i].at_ = a2 at y0 hne
     generalize fs[i].row = b2' at y1 hne
     generalize fs[i].sch = c2' at y2 hne
     clear he HT
     rcases hne with h1 | ⟨rfl,h1⟩ | ⟨rfl,rfl,h1⟩
     all_goals
      have g1:=beq_f h1
      clear h1
      go_wp2
      go_quiet (fail)
      go_wp2
      go_ret
      exact ⟨by rw [HF.out];rfl,_,World.drewN_drewN ..⟩
   ·have hii:i = es.length:=by omega
    subst hii
    have HF:Hid (R = true):=by
     show _ = _
     rw [HR.out,decide_eq_true_iff]
     have:=HT.out
     rw [List.take_length,HL.out,List.take_length] at this
     exact this
    clear HT
    go_wp2
    go_ret
    exact ⟨by rw [HF.out];rfl,n,rfl⟩
 ·have g0:((es.length:Int) != (fs.length:Int)) = true:=by rw [bne_iff_ne];omega
  have HF:Hid (R = false):=by
   show _ = _
   rw [HR.out,decide_eq_false]
   intro hc
   have:=congrArg List.length hc
   simp at this
   exact hlen this
  clear hlen
  go_enter Tryz.func149,Tryz.ntmps149
  go_wp2
  go_ret
  exact ⟨by rw [HF.out];rfl,0,rfl⟩
end Go.Proofs.YtfcblnknoljkhaaGreatDoor
namespace Go.Proofs.YtfcblnknoljkhaaGreatDoor
open Go.RowKit
theorem schSameK (n m:Int) (s t:List Col) (sp tp:Option Addr) (sc tc:Nat) (w:World) (hs:s.length * 120 ≤ 140737488351232) (hx:Cols w sp s) (hy:Cols w tp t) :
  Calls Tryz.prog 117 #[.agg #[.int .i64 n,.slice sp s.length sc],.iface 50 (.agg #[.int .i64 m,.slice tp t.length tc])] w fun e w' => e = .returned (.bool (decide (n = m) && Sch.same s t)) ∧ Below w.heap.size w w':=by
 have t1:=ta_11 (.agg #[.int .i64 m,.slice tp t.length tc])
 obtain ⟨w0,hw0⟩:∃ w0,w0 = (w.alloc (.cells #[.int .i64 n,.slice sp s.length sc] 50)).alloc (.cells #[.int .i64 m,.slice tp t.length tc] 50):=⟨_,rfl⟩
 have HB0:Hid (Below w.heap.size w w0):=by rw [hw0];exact ((Below.refl _ _).alloc (Nat.le_refl _) _).alloc (by simp) _
 have HW:Hid ((w.alloc (.cells #[.int .i64 n,.slice sp s.length sc] 50)).alloc (.cells #[.int .i64 m,.slice tp t.length tc] 50) = w0):=by rw [hw0];exact rfl
 have HC:=Lib.hid (sameSK s t sp tp sc tc w0 hs (hx.on HB0.out) (hy.on HB0.out))
 clear hw0 hx hy
 by_cases hnm:n = m
 ·subst hnm
  rw [decide_eq_true rfl,Bool.true_and]
  obtain ⟨R,hR⟩:∃ R,R = Sch.same s t:=⟨_,rfl⟩
  rw [← hR] at HC ⊢
  clear hR
  go_enter Tryz.func117,Tryz.ntmps117
  go_wp2_with fail
  rw [HW.out]
  refine HC.out.mono ?_
  rintro e w1 ⟨rfl,hb⟩
  have HB1:=Lib.hid (HB0.out.trans (hb.mono HB0.out.size))
  clear hb HC
  go_wp2
  go_ret
  exact ⟨rfl,HB1.out⟩
 ·have g1:=beq_f hnm
  rw [decide_eq_false hnm,Bool.false_and]
  clear hnm
  go_enter Tryz.func117,Tryz.ntmps117
  go_wp2
  go_ret
  rw [HW.out]
  exact ⟨rfl,HB0.out⟩
theorem datSameK (n q f r n2 q2 f2 r2:Int) (b c:List UInt8) (bp cp:Option Addr) (bc cc:Nat) (w:World) (hx:At w bp b) (hy:At w cp c) :
  Calls Tryz.prog 146 #[.agg #[.int .i64 n,.int .i64 q,.int .i64 f,.int .i64 r,.slice bp b.length bc],.iface 52 (.agg #[.int .i64 n2,.int .i64 q2,.int .i64 f2,.int .i64 r2,.slice cp c.length cc])] w fun e w' => e = .returned (.bool (decide (n = n2 ∧ q = q2 ∧ f = f2 ∧ r = r2) && (b == c))) ∧ Below w.heap.size w w':=by
 have t1:=ta_22 (.agg #[.int .i64 n2,.int .i64 q2,.int .i64 f2,.int .i64 r2,.slice cp c.length cc])
 obtain ⟨w0,hw0⟩:∃ w0,w0 = (w.alloc (.cells #[.int .i64 n,.int .i64 q,.int .i64 f,.int .i64 r,.slice bp b.length bc] 52)).alloc (.cells #[.int .i64 n2,.int .i64 q2,.int .i64 f2,.int .i64 r2,.slice cp c.length cc] 52):=⟨_,rfl⟩
 have HB0:Hid (Below w.heap.size w w0):=by rw [hw0];exact ((Below.refl _ _).alloc (Nat.le_refl _) _).alloc (by simp) _
 have HW:Hid ((w.alloc (.cells #[.int .i64 n,.int .i64 q,.int .i64 f,.int .i64 r,.slice bp b.length bc] 52)).alloc (.cells #[.int .i64 n2,.int .i64 q2,.int .i64 f2,.int .i64 r2,.slice cp c.length cc] 52) = w0):=by rw [hw0];exact rfl
 have HC:=Lib.hid (equalK bp cp bc cc b c w0 (hx.on HB0.out) (hy.on HB0.out))
 clear hw0 hx hy
 by_cases hall:n = n2 ∧ q = q2 ∧ f = f2 ∧ r = r2
 ·rw [decide_eq_true hall,Bool.true_and]
  obtain ⟨rfl,rfl,rfl,rfl⟩:=hall
  obtain ⟨R,hR⟩:∃ R,R = (b == c):=⟨_,rfl⟩
  rw [← hR] at HC ⊢
  clear hR
  go_enter Tryz.func146,Tryz.ntmps146
  go_wp2_with fail
  rw [HW.out]
  refine HC.out.mono ?_
  rintro e w1 ⟨rfl,hw1⟩
  rw [hw1]
  clear hw1 w1 HC
  go_wp2
  go_ret
  exact ⟨rfl,HB0.out⟩
 ·rw [decide_eq_false hall,Bool.false_and]
  have hne:(¬ n = n2) ∨ (n = n2 ∧ ¬ q = q2) ∨ (n = n2 ∧ q = q2 ∧ ¬ f = f2) ∨ (n = n2 ∧ q = q2 ∧ f = f2 ∧ ¬ r = r2):=by omega
  clear hall
  rcases hne with h1 | ⟨rfl,h1⟩ | ⟨rfl,rfl,h1⟩ | ⟨rfl,rfl,rfl,h1⟩
  all_goals
   have g1:=beq_f h1
   clear h1
   go_enter Tryz.func146,Tryz.ntmps146
   go_wp2
   go_ret
   rw [HW.out]
   exact ⟨rfl,HB0.out⟩
theorem idxSameK (a b c a2 b2 c2:Int) (es fs:List Ent) (ep fp:Option Addr) (ec fc:Nat) (w:World) (hl:es.length * 24 ≤ 140737488351232) (hx:Ents w ep es) (hy:Ents w fp fs) :
  Calls Tryz.prog 148 #[.agg #[.int .i64 a,.int .i64 b,.int .i64 c,.slice ep es.length ec],.iface 54 (.agg #[.int .i64 a2,.int .i64 b2,.int .i64 c2,.slice fp fs.length fc])] w fun e w' => e = .returned (.bool (Idx.same ⟨a,b,c,es⟩ ⟨a2,b2,c2,fs⟩)) ∧ Below w.heap.size w w':=by
 have t1:=ta_33 (.agg #[.int .i64 a2,.int .i64 b2,.int .i64 c2,.slice fp fs.length fc])
 obtain ⟨w0,hw0⟩:∃ w0,w0 = (w.alloc (.cells #[.int .i64 a,.int .i64 b,.int .i64 c,.slice ep es.length ec] 54)).alloc (.cells #[.int .i64 a2,.int .i64 b2,.int .i64 c2,.slice fp fs.length fc] 54):=⟨_,rfl⟩
 have HB0:Hid (Below w.heap.size w w0):=by rw [hw0];exact ((Below.refl _ _).alloc (Nat.le_refl _) _).alloc (by simp) _
 have HW:Hid ((w.alloc (.cells #[.int .i64 a,.int .i64 b,.int .i64 c,.slice ep es.length ec] 54)).alloc (.cells #[.int .i64 a2,.int .i64 b2,.int .i64 c2,.slice fp fs.length fc] 54) = w0):=by rw [hw0];exact rfl
 have HC:=Lib.hid (entsEqK ep fp ec fc es fs hl w0 (hx.on HB0.out) (hy.on HB0.out))
 clear hw0 hx hy
 by_cases hall:a = a2 ∧ b = b2 ∧ c = c2
 ·have e:Idx.same ⟨a,b,c,es⟩ ⟨a2,b2,c2,fs⟩ = decide (es.map Ent.tup = fs.map Ent.tup):=by
   unfold Idx.same
   obtain ⟨rfl,rfl,rfl⟩:=hall
   simp
  rw [e]
  obtain ⟨rfl,rfl,rfl⟩:=hall
  obtain ⟨R,hR⟩:∃ R,R = decide (es.map Ent.tup = fs.map Ent.tup):=⟨_,rfl⟩
  rw [← hR] at HC ⊢
  clear hR e
  go_enter Tryz.func148,Tryz.ntmps148
  go_wp2_with fail
  rw [HW.out]
  refine HC.out.mono ?_
  rintro e w1 ⟨rfl,k,hw1⟩
  have HB1:Hid (Below w.heap.size w w1):=by rw [hw1];exact below_drewN HB0.out k
  clear hw1 HC
  go_wp2
  go_ret
  exact ⟨rfl,HB1.out⟩
 ·have e:Idx.same ⟨a,b,c,es⟩ ⟨a2,b2,c2,fs⟩ = false:=by
   unfold Idx.same
   rw [decide_eq_false_iff_not]
   rintro ⟨h1,h2,h3,_⟩
   exact hall ⟨h1,h2,h3⟩
  rw [e]
  have hne:(¬ a = a2) ∨ (a = a2 ∧ ¬ b = b2) ∨ (a = a2 ∧ b = b2 ∧ ¬ c = c2):=by omega
  clear hall e
  rcases hne with h1 | ⟨rfl,h1⟩ | ⟨rfl,rfl,h1⟩
  all_goals
   have g1:=beq_f h1
   clear h1
   go_enter Tryz.func148,Tryz.ntmps148
   go_wp2
   go_ret
   rw [HW.out]
   exact ⟨rfl,HB0.out⟩
theorem sameF_1 (a b:Fr) (ha:a.kind = 1) (hb:b.kind = 1) (u v:Array Value) (w:World) (hx:FLies w u a) (hy:FLies w v b) :
  Calls Tryz.prog 15 #[.agg u,.agg v] w fun e w' => e = .returned (.bool (Fr.same a b)) ∧ Below w.heap.size w w':=by
 obtain ⟨sp1,sc1,bp1,bc1,ep1,ec1,rfl,h1,h2,h3,h4,h5,h6,h7,h8,h9⟩:=hx.out
 obtain ⟨sp2,sc2,bp2,bc2,ep2,ec2,rfl,-,-,y3,-,-,y6,-,-,y9⟩:=hy.out
 unfold cells11
 have e:Fr.same a b = (decide (a.number = b.number) && Sch.same a.cols b.cols):=by
  unfold Fr.same
  rw [hb,decide_eq_true ha,Bool.true_and]
  rw [if_pos ha]
 rw [e,ha,hb]
 have HX3:=Lib.hid h3
 have HX6:=Lib.hid h6
 have HX9:=Lib.hid h9
 have HY3:=Lib.hid y3
 have HY6:=Lib.hid y6
 have HY9:=Lib.hid y9
 obtain ⟨w0,hw0⟩:∃ w0,w0 = (w.alloc (.cells #[.int .i64 1,.int .i64 a.number,.slice sp1 a.cols.length sc1,.int .i64 a.seq,.int .i64 a.first,.int .i64 a.rows,.slice bp1 a.block.length bc1,.int .i64 a.index.at_,.int .i64 a.index.frames,.int .i64 a.index.rows,.slice ep1 a.index.entries.length ec1] 30)).alloc (.cells #[.int .i64 1,.int .i64 b.number,.slice sp2 b.cols.length sc2,.int .i64 b.seq,.int .i64 b.first,.int .i64 b.rows,.slice bp2 b.block.length bc2,.int .i64 b.index.at_,.int .i64 b.index.frames,.int .i64 b.index.rows,.slice ep2 b.index.entries.length ec2] 30):=⟨_,rfl⟩
 have HB0:Hid (Below w.heap.size w w0):=by rw [hw0];exact ((Below.refl _ _).alloc (Nat.le_refl _) _).alloc (by simp) _
 have HW:Hid ((w.alloc (.cells #[.int .i64 1,.int .i64 a.number,.slice sp1 a.cols.length sc1,.int .i64 a.seq,.int .i64 a.first,.int .i64 a.rows,.slice bp1 a.block.length bc1,.int .i64 a.index.at_,.int .i64 a.index.frames,.int .i64 a.index.rows,.slice ep1 a.index.entries.length ec1] 30)).alloc (.cells #[.int .i64 1,.int .i64 b.number,.slice sp2 b.cols.length sc2,.int .i64 b.seq,.int .i64 b.first,.int .i64 b.rows,.slice bp2 b.block.length bc2,.int .i64 b.index.at_,.int .i64 b.index.frames,.int .i64 b.index.rows,.slice ep2 b.index.entries.length ec2] 30) = w0):=by rw [hw0];exact rfl
 have hK0:w0.heap[w.heap.size + 1]? = some (.cells #[.int .i64 1,.int .i64 b.number,.slice sp2 b.cols.length sc2,.int .i64 b.seq,.int .i64 b.first,.int .i64 b.rows,.slice bp2 b.block.length bc2,.int .i64 b.index.at_,.int .i64 b.index.frames,.int .i64 b.index.rows,.slice ep2 b.index.entries.length ec2] 30 (0,0)):=by rw [hw0];exact blk_second w _ _
 have HC1:=Lib.hid (fieldsOf_1 a.number sp1 a.cols.length sc1 a.seq a.first a.rows bp1 a.block.length bc1 a.index.at_ a.index.frames a.index.rows ep1 a.index.entries.length ec1 w0)
 obtain ⟨R,hR⟩:∃ R,R = (decide (a.number = b.number) && Sch.same a.cols b.cols):=⟨_,rfl⟩
 have HR:=Lib.hid hR
 rw [← hR]
 have hz0:w0.heap.size = w.heap.size + 1 + 1:=by rw [hw0];simp
 have HK0:=Lib.hid hK0
 clear hw0 hK0 e ha hb hx hy h3 h6 h9 y3 y6 y9 hR
 go_enter Tryz.func15,Tryz.ntmps15
 go_wp2_with fail
 rw [HW.out]
 refine HC1.out.mono ?_
 rintro e w1 ⟨rfl,hb1⟩
 have hK1:=(hb1.block _ (by omega)).trans HK0.out
 have x0:=blk_cell hK1 0
 have x1:=blk_cell hK1 1
 have x2:=blk_cell hK1 2
 have x3:=blk_cell hK1 3
 have x4:=blk_cell hK1 4
 have x5:=blk_cell hK1 5
 have x6:=blk_cell hK1 6
 have x7:=blk_cell hK1 7
 have x8:=blk_cell hK1 8
 have x9:=blk_cell hK1 9
 have x10:=blk_cell hK1 10
 simp only [List.getElem?_toArray,List.getElem?_cons_zero,List.getElem?_cons_succ] at x0 x1 x2 x3 x4 x5 x6 x7 x8 x9 x10
 have HB1:=Lib.hid (HB0.out.trans (hb1.mono HB0.out.size))
 have HC2:=Lib.hid (fieldsOf_1 b.number sp2 b.cols.length sc2 b.seq b.first b.rows bp2 b.block.length bc2 b.index.at_ b.index.frames b.index.rows ep2 b.index.entries.length ec2 w1)
 clear hb1 HC1 hK1
 go_wp2_with fail
 refine HC2.out.mono ?_
 rintro e w2 ⟨rfl,hb2⟩
 have HB2:=Lib.hid (HB1.out.trans (hb2.mono HB1.out.size))
 have HC3:=Lib.hid (schSameK a.number b.number a.cols b.cols sp1 sp2 sc1 sc2 w2 h1 (HX3.out.on HB2.out) (HY3.out.on HB2.out))
 rw [← HR.out] at HC3
 clear hb2 HC2
 go_wp2_with fail
 refine HC3.out.mono ?_
 rintro e w3 ⟨rfl,hb3⟩
 have HB3:=Lib.hid (HB2.out.trans (hb3.mono HB2.out.size))
 clear hb3 HC3
 go_wp2
 go_ret
 exact ⟨rfl,HB3.out⟩
theorem sameF_2 (a b:Fr) (ha:a.kind = 2) (hb:b.kind = 2) (u v:Array Value) (w:World) (hx:FLies w u a) (hy:FLies w v b) :
  Calls Tryz.prog 15 #[.agg u,.agg v] w fun e w' => e = .returned (.bool (Fr.same a b)) ∧ Below w.heap.size w w':=by
 obtain ⟨sp1,sc1,bp1,bc1,ep1,ec1,rfl,h1,h2,h3,h4,h5,h6,h7,h8,h9⟩:=hx.out
 obtain ⟨sp2,sc2,bp2,bc2,ep2,ec2,rfl,-,-,y3,-,-,y6,-,-,y9⟩:=hy.out
 unfold cells11
 have e:Fr.same a b = (decide (a.number = b.number ∧ a.seq = b.seq ∧ a.first = b.first ∧ a.rows = b.rows) && (a.block == b.block)):=by
  unfold Fr.same
  rw [hb,decide_eq_true ha,Bool.true_and]
  rw [if_neg (by omega),if_pos ha]
 rw [e,ha,hb]
 have HX3:=Lib.hid h3
 have HX6:=Lib.hid h6
 have HX9:=Lib.hid h9
 have HY3:=Lib.hid y3
 have HY6:=Lib.hid y6
 have HY9:=Lib.hid y9
 obtain ⟨w0,hw0⟩:∃ w0,w0 = (w.alloc (.cells #[.int .i64 2,.int .i64 a.number,.slice sp1 a.cols.length sc1,.int .i64 a.seq,.int .i64 a.first,.int .i64 a.rows,.slice bp1 a.block.length bc1,.int .i64 a.index.at_,.int .i64 a.index.frames,.int .i64 a.index.rows,.slice ep1 a.index.entries.length ec1] 30)).alloc (.cells #[.int .i64 2,.int .i64 b.number,.slice sp2 b.cols.length sc2,.int .i64 b.seq,.int .i64 b.first,.int .i64 b.rows,.slice bp2 b.block.length bc2,.int .i64 b.index.at_,.int .i64 b.index.frames,.int .i64 b.index.rows,.slice ep2 b.index.entries.length ec2] 30):=⟨_,rfl⟩
 have HB0:Hid (Below w.heap.size w w0):=by rw [hw0];exact ((Below.refl _ _).alloc (Nat.le_refl _) _).alloc (by simp) _
 have HW:Hid ((w.alloc (.cells #[.int .i64 2,.int .i64 a.number,.slice sp1 a.cols.length sc1,.int .i64 a.seq,.int .i64 a.first,.int .i64 a.rows,.slice bp1 a.block.length bc1,.int .i64 a.index.at_,.int .i64 a.index.frames,.int .i64 a.index.rows,.slice ep1 a.index.entries.length ec1] 30)).alloc (.cells #[.int .i64 2,.int .i64 b.number,.slice sp2 b.cols.length sc2,.int .i64 b.seq,.int .i64 b.first,.int .i64 b.rows,.slice bp2 b.block.length bc2,.int .i64 b.index.at_,.int .i64 b.index.frames,.int .i64 b.index.rows,.slice ep2 b.index.entries.length ec2] 30) = w0):=by rw [hw0];exact rfl
 have hK0:w0.heap[w.heap.size + 1]? = some (.cells #[.int .i64 2,.int .i64 b.number,.slice sp2 b.cols.length sc2,.int .i64 b.seq,.int .i64 b.first,.int .i64 b.rows,.slice bp2 b.block.length bc2,.int .i64 b.index.at_,.int .i64 b.index.frames,.int .i64 b.index.rows,.slice ep2 b.index.entries.length ec2] 30 (0,0)):=by rw [hw0];exact blk_second w _ _
 have HC1:=Lib.hid (fieldsOf_2 a.number sp1 a.cols.length sc1 a.seq a.first a.rows bp1 a.block.length bc1 a.index.at_ a.index.frames a.index.rows ep1 a.index.entries.length ec1 w0)
 obtain ⟨R,hR⟩:∃ R,R = (decide (a.number = b.number ∧ a.seq = b.seq ∧ a.first = b.first ∧ a.rows = b.rows) && (a.block == b.block)):=⟨_,rfl⟩
 have HR:=Lib.hid hR
 rw [← hR]
 have hz0:w0.heap.size = w.heap.size + 1 + 1:=by rw [hw0];simp
 have HK0:=Lib.hid hK0
 clear hw0 hK0 e ha hb hx hy h3 h6 h9 y3 y6 y9 hR
 go_enter Tryz.func15,Tryz.ntmps15
 go_wp2_with fail
 rw [HW.out]
 refine HC1.out.mono ?_
 rintro e w1 ⟨rfl,hb1⟩
 have hK1:=(hb1.block _ (by omega)).trans HK0.out
 have x0:=blk_cell hK1 0
 have x1:=blk_cell hK1 1
 have x2:=blk_cell hK1 2
 have x3:=blk_cell hK1 3
 have x4:=blk_cell hK1 4
 have x5:=blk_cell hK1 5
 have x6:=blk_cell hK1 6
 have x7:=blk_cell hK1 7
 have x8:=blk_cell hK1 8
 have x9:=blk_cell hK1 9
 have x10:=blk_cell hK1 10
 simp only [List.getElem?_toArray,List.getElem?_cons_zero,List.getElem?_cons_succ] at x0 x1 x2 x3 x4 x5 x6 x7 x8 x9 x10
 have HB1:=Lib.hid (HB0.out.trans (hb1.mono HB0.out.size))
 have HC2:=Lib.hid (fieldsOf_2 b.number sp2 b.cols.length sc2 b.seq b.first b.rows bp2 b.block.length bc2 b.index.at_ b.index.frames b.index.rows ep2 b.index.entries.length ec2 w1)
 clear hb1 HC1 hK1
 go_wp2_with fail
 refine HC2.out.mono ?_
 rintro e w2 ⟨rfl,hb2⟩
 have HB2:=Lib.hid (HB1.out.trans (hb2.mono HB1.out.size))
 have HC3:=Lib.hid (datSameK a.number a.seq a.first a.rows b.number b.seq b.first b.rows a.block b.block bp1 bp2 bc1 bc2 w2 (HX6.out.on HB2.out) (HY6.out.on HB2.out))
 rw [← HR.out] at HC3
 clear hb2 HC2
 go_wp2_with fail
 refine HC3.out.mono ?_
 rintro e w3 ⟨rfl,hb3⟩
 have HB3:=Lib.hid (HB2.out.trans (hb3.mono HB2.out.size))
 clear hb3 HC3
 go_wp2
 go_ret
 exact ⟨rfl,HB3.out⟩
theorem sameF_3 (a b:Fr) (ha:a.kind = 3) (hb:b.kind = 3) (u v:Array Value) (w:World) (hx:FLies w u a) (hy:FLies w v b) :
  Calls Tryz.prog 15 #[.agg u,.agg v] w fun e w' => e = .returned (.bool (Fr.same a b)) ∧ Below w.heap.size w w':=by
 obtain ⟨sp1,sc1,bp1,bc1,ep1,ec1,rfl,h1,h2,h3,h4,h5,h6,h7,h8,h9⟩:=hx.out
 obtain ⟨sp2,sc2,bp2,bc2,ep2,ec2,rfl,-,-,y3,-,-,y6,-,-,y9⟩:=hy.out
 unfold cells11
 have e:Fr.same a b = (Idx.same a.index b.index):=by
  unfold Fr.same
  rw [hb,decide_eq_true ha,Bool.true_and]
  rw [if_neg (by omega),if_neg (by omega),if_pos ha]
 rw [e,ha,hb]
 have HX3:=Lib.hid h3
 have HX6:=Lib.hid h6
 have HX9:=Lib.hid h9
 have HY3:=Lib.hid y3
 have HY6:=Lib.hid y6
 have HY9:=Lib.hid y9
 obtain ⟨w0,hw0⟩:∃ w0,w0 = (w.alloc (.cells #[.int .i64 3,.int .i64 a.number,.slice sp1 a.cols.length sc1,.int .i64 a.seq,.int .i64 a.first,.int .i64 a.rows,.slice bp1 a.block.length bc1,.int .i64 a.index.at_,.int .i64 a.index.frames,.int .i64 a.index.rows,.slice ep1 a.index.entries.length ec1] 30)).alloc (.cells #[.int .i64 3,.int .i64 b.number,.slice sp2 b.cols.length sc2,.int .i64 b.seq,.int .i64 b.first,.int .i64 b.rows,.slice bp2 b.block.length bc2,.int .i64 b.index.at_,.int .i64 b.index.frames,.int .i64 b.index.rows,.slice ep2 b.index.entries.length ec2] 30):=⟨_,rfl⟩
 have HB0:Hid (Below w.heap.size w w0):=by rw [hw0];exact ((Below.refl _ _).alloc (Nat.le_refl _) _).alloc (by simp) _
 have HW:Hid ((w.alloc (.cells #[.int .i64 3,.int .i64 a.number,.slice sp1 a.cols.length sc1,.int .i64 a.seq,.int .i64 a.first,.int .i64 a.rows,.slice bp1 a.block.length bc1,.int .i64 a.index.at_,.int .i64 a.index.frames,.int .i64 a.index.rows,.slice ep1 a.index.entries.length ec1] 30)).alloc (.cells #[.int .i64 3,.int .i64 b.number,.slice sp2 b.cols.length sc2,.int .i64 b.seq,.int .i64 b.first,.int .i64 b.rows,.slice bp2 b.block.length bc2,.int .i64 b.index.at_,.int .i64 b.index.frames,.int .i64 b.index.rows,.slice ep2 b.index.entries.length ec2] 30) = w0):=by rw [hw0];exact rfl
 have hK0:w0.heap[w.heap.size + 1]? = some (.cells #[.int .i64 3,.int .i64 b.number,.slice sp2 b.cols.length sc2,.int .i64 b.seq,.int .i64 b.first,.int .i64 b.rows,.slice bp2 b.block.length bc2,.int .i64 b.index.at_,.int .i64 b.index.frames,.int .i64 b.index.rows,.slice ep2 b.index.entries.length ec2] 30 (0,0)):=by rw [hw0];exact blk_second w _ _
 have HC1:=Lib.hid (fieldsOf_3 a.number sp1 a.cols.length sc1 a.seq a.first a.rows bp1 a.block.length bc1 a.index.at_ a.index.frames a.index.rows ep1 a.index.entries.length ec1 w0)
 obtain ⟨R,hR⟩:∃ R,R = (Idx.same a.index b.index):=⟨_,rfl⟩
 have HR:=Lib.hid hR
 rw [← hR]
 have hz0:w0.heap.size = w.heap.size + 1 + 1:=by rw [hw0];simp
 have HK0:=Lib.hid hK0
 clear hw0 hK0 e ha hb hx hy h3 h6 h9 y3 y6 y9 hR
 go_enter Tryz.func15,Tryz.ntmps15
 go_wp2_with fail
 rw [HW.out]
 refine HC1.out.mono ?_
 rintro e w1 ⟨rfl,hb1⟩
 have hK1:=(hb1.block _ (by omega)).trans HK0.out
 have x0:=blk_cell hK1 0
 have x1:=blk_cell hK1 1
 have x2:=blk_cell hK1 2
 have x3:=blk_cell hK1 3
 have x4:=blk_cell hK1 4
 have x5:=blk_cell hK1 5
 have x6:=blk_cell hK1 6
 have x7:=blk_cell hK1 7
 have x8:=blk_cell hK1 8
 have x9:=blk_cell hK1 9
 have x10:=blk_cell hK1 10
 simp only [List.getElem?_toArray,List.getElem?_cons_zero,List.getElem?_cons_succ] at x0 x1 x2 x3 x4 x5 x6 x7 x8 x9 x10
 have HB1:=Lib.hid (HB0.out.trans (hb1.mono HB0.out.size))
 have HC2:=Lib.hid (fieldsOf_3 b.number sp2 b.cols.length sc2 b.seq b.first b.rows bp2 b.block.length bc2 b.index.at_ b.index.frames b.index.rows ep2 b.index.entries.length ec2 w1)
 clear hb1 HC1 hK1
 go_wp2_with fail
 refine HC2.out.mono ?_
 rintro e w2 ⟨rfl,hb2⟩
 have HB2:=Lib.hid (HB1.out.trans (hb2.mono HB1.out.size))
 have HC3:=Lib.hid (idxSameK a.index.at_ a.index.frames a.index.rows b.index.at_ b.index.frames b.index.rows a.index.entries b.index.entries ep1 ep2 ec1 ec2 w2 h7 (HX9.out.on HB2.out) (HY9.out.on HB2.out))
 clear hb2 HC2
 go_wp2_with fail
 refine HC3.out.mono ?_
 rintro e w3 ⟨rfl,hb3⟩
 have HB3:=Lib.hid (HB2.out.trans (hb3.mono HB2.out.size))
 clear hb3 HC3
 go_wp2
 go_ret
 exact ⟨by rw [HR.out];rfl,HB3.out⟩
theorem sameF_0 (a b:Fr) (hab:a.kind = b.kind) (g1:a.kind ≠ 1) (g2:a.kind ≠ 2) (g3:a.kind ≠ 3) (u v:Array Value) (w:World) (hx:FLies w u a) (hy:FLies w v b) :
  Calls Tryz.prog 15 #[.agg u,.agg v] w fun e w' => e = .returned (.bool (Fr.same a b)) ∧ Below w.heap.size w w':=by
 obtain ⟨sp1,sc1,bp1,bc1,ep1,ec1,rfl,h1,h2,h3,h4,h5,h6,h7,h8,h9⟩:=hx.out
 obtain ⟨sp2,sc2,bp2,bc2,ep2,ec2,rfl,-,-,y3,-,-,y6,-,-,y9⟩:=hy.out
 unfold cells11
 have e:Fr.same a b = true:=by
  unfold Fr.same
  rw [decide_eq_true hab,Bool.true_and,if_neg g1,if_neg g2,if_neg g3]
 rw [e,← hab]
 obtain ⟨w0,hw0⟩:∃ w0,w0 = (w.alloc (.cells #[.int .i64 a.kind,.int .i64 a.number,.slice sp1 a.cols.length sc1,.int .i64 a.seq,.int .i64 a.first,.int .i64 a.rows,.slice bp1 a.block.length bc1,.int .i64 a.index.at_,.int .i64 a.index.frames,.int .i64 a.index.rows,.slice ep1 a.index.entries.length ec1] 30)).alloc (.cells #[.int .i64 a.kind,.int .i64 b.number,.slice sp2 b.cols.length sc2,.int .i64 b.seq,.int .i64 b.first,.int .i64 b.rows,.slice bp2 b.block.length bc2,.int .i64 b.index.at_,.int .i64 b.index.frames,.int .i64 b.index.rows,.slice ep2 b.index.entries.length ec2] 30):=⟨_,rfl⟩
 have HB0:Hid (Below w.heap.size w w0):=by rw [hw0];exact ((Below.refl _ _).alloc (Nat.le_refl _) _).alloc (by simp) _
 have HW:Hid ((w.alloc (.cells #[.int .i64 a.kind,.int .i64 a.number,.slice sp1 a.cols.length sc1,.int .i64 a.seq,.int .i64 a.first,.int .i64 a.rows,.slice bp1 a.block.length bc1,.int .i64 a.index.at_,.int .i64 a.index.frames,.int .i64 a.index.rows,.slice ep1 a.index.entries.length ec1] 30)).alloc (.cells #[.int .i64 a.kind,.int .i64 b.number,.slice sp2 b.cols.length sc2,.int .i64 b.seq,.int .i64 b.first,.int .i64 b.rows,.slice bp2 b.block.length bc2,.int .i64 b.index.at_,.int .i64 b.index.frames,.int .i64 b.index.rows,.slice ep2 b.index.entries.length ec2] 30) = w0):=by rw [hw0];exact rfl
 have HC1:=Lib.hid (fieldsOf_0 a.kind g1 g2 g3 a.number sp1 a.cols.length sc1 a.seq a.first a.rows bp1 a.block.length bc1 a.index.at_ a.index.frames a.index.rows ep1 a.index.entries.length ec1 w0)
 clear hw0 e hab g1 g2 g3 hx hy
 go_enter Tryz.func15,Tryz.ntmps15
 go_wp2_with fail
 rw [HW.out]
 refine HC1.out.mono ?_
 rintro e w1 ⟨rfl,hb1⟩
 have HB1:=Lib.hid (HB0.out.trans (hb1.mono HB0.out.size))
 clear hb1 HC1
 go_wp2
 go_ret
 exact ⟨rfl,HB1.out⟩
theorem sameF_ne (a b:Fr) (hab:¬ a.kind = b.kind) (u v:Array Value) (w:World) (hx:FLies w u a) (hy:FLies w v b) :
  Calls Tryz.prog 15 #[.agg u,.agg v] w fun e w' => e = .returned (.bool (Fr.same a b)) ∧ Below w.heap.size w w':=by
 obtain ⟨sp1,sc1,bp1,bc1,ep1,ec1,rfl,h1,h2,h3,h4,h5,h6,h7,h8,h9⟩:=hx.out
 obtain ⟨sp2,sc2,bp2,bc2,ep2,ec2,rfl,-,-,y3,-,-,y6,-,-,y9⟩:=hy.out
 unfold cells11
 have e:Fr.same a b = false:=by
  unfold Fr.same
  rw [decide_eq_false hab,Bool.false_and]
 rw [e]
 have g0:(a.kind != b.kind) = true:=by rw [bne_iff_ne];exact hab
 have HB0:Hid (∀ o o2,Below w.heap.size w ((w.alloc o).alloc o2)):=fun o o2 => ((Below.refl _ _).alloc (Nat.le_refl _) _).alloc (by simp) _
 clear e hab hx hy
 go_enter Tryz.func15,Tryz.ntmps15
 go_wp2
 go_ret
 exact ⟨rfl,HB0.out _ _⟩
theorem sameF (a b:Fr) (u v:Array Value) (w:World) (hx:FLies w u a) (hy:FLies w v b) :
  Calls Tryz.prog 15 #[.agg u,.agg v] w fun e w' => e = .returned (.bool (Fr.same a b)) ∧ Below w.heap.size w w':=by
 by_cases hab:a.kind = b.kind
 ·by_cases h1:a.kind = 1
  ·exact sameF_1 a b h1 (hab ▸ h1) u v w hx hy
  by_cases h2:a.kind = 2
  ·exact sameF_2 a b h2 (hab ▸ h2) u v w hx hy
  by_cases h3:a.kind = 3
  ·exact sameF_3 a b h3 (hab ▸ h3) u v w hx hy
  exact sameF_0 a b hab h1 h2 h3 u v w hx hy
 ·exact sameF_ne a b hab u v w hx hy
end Go.Proofs.YtfcblnknoljkhaaGreatDoor
