import Derived.Test.YtclhbhhlddbocaaGreatDoorB11
import Derived.Test.YtclhbhhlddbocaaGreatDoorA18
import Derived.Test.YtclhbhhlddbocaaGreatDoorA7
import Derived.Test.YtclhbhhlddbocaaGreatDoorB13
import Derived.BigQuiet
set_option maxRecDepth 100000
set_option maxHeartbeats 4000000
namespace Go.Proofs.YtclhbhhlddbocaaGreatDoor
open Go.RowKit
theorem idx_dec (a b c:Int) (es fs:List Ent):Idx.same ⟨a,b,c,es⟩ ⟨a,b,c,fs⟩ = decide (es.map Ent.tup = fs.map Ent.tup):=by
 unfold Idx.same
 simp
theorem refSameIdx (a b c a2 b2 c2:Int) (es fs:List Ent) (p q:Option Addr) (ec fc:Nat) (w:World) (hl:es.length * 24 ≤ 140737488351232) (h1:Ents w p es) (h2:Ents w q fs) :
  Calls Tryz.prog 53 #[.agg #[.int .i64 a,.int .i64 b,.int .i64 c,.slice p es.length ec],.agg #[.int .i64 a2,.int .i64 b2,.int .i64 c2,.slice q fs.length fc]] w fun e w' => e = .returned (.bool (Idx.same ⟨a,b,c,es⟩ ⟨a2,b2,c2,fs⟩)) ∧ Below w.heap.size w w':=by
 obtain ⟨R,hR⟩:∃ R,R = Idx.same ⟨a,b,c,es⟩ ⟨a2,b2,c2,fs⟩:=⟨_,rfl⟩
 rw [← hR]
 have HR:=Lib.hid hR
 have H1:=Lib.hid h1
 have H2:=Lib.hid h2
 have HB0:Hid (∀ o o2,Below w.heap.size w ((w.alloc o).alloc o2)):=fun o o2 => ((Below.refl _ _).alloc (Nat.le_refl _) _).alloc (by simp) _
 clear hR h1 h2
 by_cases hall:a = a2 ∧ b = b2 ∧ c = c2 ∧ es.length = fs.length
 ·obtain ⟨rfl,rfl,rfl,hlen⟩:=hall
  rw [idx_dec] at HR
  have HL:=Lib.hid hlen
  obtain ⟨m,hm⟩:∃ m,m = fs.length:=⟨_,rfl⟩
  rw [← hm]
  have hm2:m = es.length:=by omega
  subst hm2
  clear hm hlen
  obtain ⟨W0,hW0⟩:∃ W0,W0 = (w.alloc (.cells #[.int .i64 a,.int .i64 b,.int .i64 c,.slice p es.length ec] 28)).alloc (.cells #[.int .i64 a,.int .i64 b,.int .i64 c,.slice q es.length fc] 28):=⟨_,rfl⟩
  have HB:Hid (Below w.heap.size w W0):=by rw [hW0];exact HB0.out _ _
  have HY:Hid (W0.cell? ⟨w.heap.size,3,none⟩ = some (.slice p es.length ec) ∧ W0.cell? ⟨w.heap.size + 1,3,none⟩ = some (.slice q es.length fc)):=by rw [hW0];exact ⟨by simp,by simp⟩
  have HW:Hid ((w.alloc (.cells #[.int .i64 a,.int .i64 b,.int .i64 c,.slice p es.length ec] 28)).alloc (.cells #[.int .i64 a,.int .i64 b,.int .i64 c,.slice q es.length fc] 28) = W0):=by rw [hW0];exact rfl
  clear hW0
  go_enter Tryz.func53,Tryz.ntmps53
  go_wp2_with fail
  rw [HW.out]
  clear HW
  go_loopw [5] (fun v5 wr => ∃ i n:Nat,i ≤ es.length ∧ v5 = .int .i64 i ∧ wr = W0.drewN n ∧ Hid ((es.take i).map Ent.tup = (fs.take i).map Ent.tup)) (fun v5 _ => es.length - (intOf v5).toNat)
  case atStart => exact ⟨0,0,by omega,rfl,rfl,rfl⟩
  case round =>
   obtain ⟨i,n,hi,rfl,rfl,HT⟩:=hrel
   obtain ⟨z1,z2⟩:=HY.out
   by_cases hlt:i < es.length
   ·have hlt':(i:Int) < (es.length:Int):=by omega
    have hlt2:i < fs.length:=by have:=HL.out;omega
    obtain ⟨b1,o1,hp,-,x0,x1,x2⟩:=(H1.out.on HB.out) i hlt
    obtain ⟨b2,o2,hq,-,y0,y1,y2⟩:=(H2.out.on HB.out) i hlt2
    subst hp hq
    by_cases he:es[i].tup = fs[i].tup
    ·have HT2:=Lib.hid (tup_take_succ es fs i hlt hlt2 HT.out he)
     simp only [Ent.tup,Prod.mk.injEq] at he
     obtain ⟨e1,e2,e3⟩:=he
     rw [← e1] at y0
     rw [← e2] at y1
     rw [← e3] at y2
     generalize es[i].at_ = a' at x0 y0
     generalize es[i].row = b' at x1 y1
     generalize es[i].sch = c' at x2 y2
     clear e1 e2 e3 HT
     go_wp2
     go_quiet (fail)
     go_wp2
     go_roundw
     case rel => exact ⟨i + 1,_,by omega,by go_num,rfl,HT2⟩
     case measure => simp [intOf];omega
    ·have HF:Hid (R = false):=by
      show _ = _
      rw [HR.out,decide_eq_false]
      intro hc
      have h5:=tup_map_inj hc
      subst h5
      exact he rfl
     have hne:(¬ es[i].at_ = fs[i].at_) ∨ (es[i].at_ = fs[i].at_ ∧ ¬ es[i].row = fs[i].row) ∨ (es[i].at_ = fs[i].at_ ∧ es[i].row = fs[i].row ∧ ¬ es[i].sch = fs[i].sch):=by
      by_cases h1:es[i].at_ = fs[i].at_
      ·by_cases h2:es[i].row = fs[i].row
       ·by_cases h3:es[i].sch = fs[i].sch
        ·exact absurd (by simp only [Ent.tup,h1,h2,h3]) he
        ·exact .inr (.inr ⟨h1,h2,h3⟩)
       ·exact .inr (.inl ⟨h1,h2⟩)
      ·exact .inl h1
     generalize es[i].at_ = a' at x0 hne
     generalize es[i].row = b' at x1 hne
     generalize es[i].sch = c' at x2 hne
     generalize fs[i].at_ = a2' at y0 hne
     generalize fs[i].row = b2' at y1 hne
     generalize fs[i].sch = c2' at y2 hne
     clear he HT
     rcases hne with h1 | ⟨rfl,h1⟩ | ⟨rfl,rfl,h1⟩
     all_goals
      have g1:=beq_f h1
      clear h1
      go_wp2
      go_quiet (fail)
      go_wp2
      go_ret
      exact ⟨by rw [HF.out];rfl,below_drewN (below_drewN HB.out _) _⟩
   ·have hii:i = es.length:=by omega
    subst hii
    have HF:Hid (R = true):=by
     show _ = _
     rw [HR.out,decide_eq_true_iff]
     have:=HT.out
     rw [List.take_length,HL.out,List.take_length] at this
     exact this
    clear HT
    go_wp2
    go_ret
    exact ⟨by rw [HF.out];rfl,below_drewN HB.out n⟩
 ·have HF:Hid (R = false):=by
   show _ = _
   rw [HR.out]
   unfold Idx.same
   rw [decide_eq_false_iff_not]
   rintro ⟨k1,k2,k3,k4⟩
   exact hall ⟨k1,k2,k3,by have:=congrArg List.length k4;simpa using this⟩
  have hne:(¬ a = a2) ∨ (a = a2 ∧ ¬ b = b2) ∨ (a = a2 ∧ b = b2 ∧ ¬ c = c2) ∨ (a = a2 ∧ b = b2 ∧ c = c2 ∧ ¬ (es.length:Int) = (fs.length:Int)):=by omega
  clear hall
  rcases hne with k1 | ⟨rfl,k1⟩ | ⟨rfl,rfl,k1⟩ | ⟨rfl,rfl,rfl,k1⟩
  all_goals
   have g1:=bne_t k1
   clear k1
   go_enter Tryz.func53,Tryz.ntmps53
   go_wp2
   go_ret
   exact ⟨by rw [HF.out];rfl,HB0.out _ _⟩
theorem refSame12_1 (a b:Fr) (ha:a.kind = 1) (hb:b.kind = 1) (u v:Array Value) (w:World) (hx:FLies w u a) (hy:FLies w v b) :
  Calls Tryz.prog 17 #[.agg u,.agg v] w fun e w' => e = .returned (.bool (Fr.same a b)) ∧ Below w.heap.size w w':=by
 obtain ⟨sp1,sc1,bp1,bc1,ep1,ec1,rfl,h1,h2,h3,h4,h5,h6,h7,h8,h9⟩:=hx.out
 obtain ⟨sp2,sc2,bp2,bc2,ep2,ec2,rfl,-,-,y3,-,-,y6,-,-,y9⟩:=hy.out
 unfold cells11
 have e:Fr.same a b = (decide (a.number = b.number) && Sch.same a.cols b.cols):=by
  unfold Fr.same
  rw [hb,decide_eq_true ha,Bool.true_and]
  rw [if_pos ha]
 rw [e,ha,hb]
 obtain ⟨w0,hw0⟩:∃ w0,w0 = (w.alloc (.cells #[.int .i64 1,.int .i64 a.number,.slice sp1 a.cols.length sc1,.int .i64 a.seq,.int .i64 a.first,.int .i64 a.rows,.slice bp1 a.block.length bc1,.int .i64 a.index.at_,.int .i64 a.index.frames,.int .i64 a.index.rows,.slice ep1 a.index.entries.length ec1] 30)).alloc (.cells #[.int .i64 1,.int .i64 b.number,.slice sp2 b.cols.length sc2,.int .i64 b.seq,.int .i64 b.first,.int .i64 b.rows,.slice bp2 b.block.length bc2,.int .i64 b.index.at_,.int .i64 b.index.frames,.int .i64 b.index.rows,.slice ep2 b.index.entries.length ec2] 30):=⟨_,rfl⟩
 have HB0:Hid (Below w.heap.size w w0):=by rw [hw0];exact ((Below.refl _ _).alloc (Nat.le_refl _) _).alloc (by simp) _
 have HW:Hid ((w.alloc (.cells #[.int .i64 1,.int .i64 a.number,.slice sp1 a.cols.length sc1,.int .i64 a.seq,.int .i64 a.first,.int .i64 a.rows,.slice bp1 a.block.length bc1,.int .i64 a.index.at_,.int .i64 a.index.frames,.int .i64 a.index.rows,.slice ep1 a.index.entries.length ec1] 30)).alloc (.cells #[.int .i64 1,.int .i64 b.number,.slice sp2 b.cols.length sc2,.int .i64 b.seq,.int .i64 b.first,.int .i64 b.rows,.slice bp2 b.block.length bc2,.int .i64 b.index.at_,.int .i64 b.index.frames,.int .i64 b.index.rows,.slice ep2 b.index.entries.length ec2] 30) = w0):=by rw [hw0];exact rfl
 have hK0:w0.heap[w.heap.size]? = some (.cells #[.int .i64 1,.int .i64 a.number,.slice sp1 a.cols.length sc1,.int .i64 a.seq,.int .i64 a.first,.int .i64 a.rows,.slice bp1 a.block.length bc1,.int .i64 a.index.at_,.int .i64 a.index.frames,.int .i64 a.index.rows,.slice ep1 a.index.entries.length ec1] 30 (0,0)):=by rw [hw0];exact blk_first w _ _
 have hK1:w0.heap[w.heap.size + 1]? = some (.cells #[.int .i64 1,.int .i64 b.number,.slice sp2 b.cols.length sc2,.int .i64 b.seq,.int .i64 b.first,.int .i64 b.rows,.slice bp2 b.block.length bc2,.int .i64 b.index.at_,.int .i64 b.index.frames,.int .i64 b.index.rows,.slice ep2 b.index.entries.length ec2] 30 (0,0)):=by rw [hw0];exact blk_second w _ _
 have hz0:w0.heap.size = w.heap.size + 1 + 1:=by rw [hw0];simp
 have HK0:=Lib.hid hK0
 have HK1:=Lib.hid hK1
 clear hw0 hK0 hK1
 have HC:=Lib.hid (refSameS7 a.cols b.cols sp1 sp2 sc1 sc2 w0 h1 (h3.on HB0.out) (y3.on HB0.out))
 obtain ⟨S,hS⟩:∃ S,S = Sch.same a.cols b.cols:=⟨_,rfl⟩
 rw [← hS] at HC ⊢
 clear e ha hb hx hy h3 h6 h9 y3 y6 y9 hS
 go_enter Tryz.func17,Tryz.ntmps17
 go_wp2_with fail
 rw [HW.out]
 refine HC.out.mono ?_
 rintro e w1 ⟨rfl,hb1⟩
 have k1:=(hb1.block _ (by omega)).trans HK0.out
 have k2:=(hb1.block _ (by omega)).trans HK1.out
 have x1:=blk_cell k1 1
 have x2:=blk_cell k2 1
 simp only [List.getElem?_toArray,List.getElem?_cons_zero,List.getElem?_cons_succ] at x1 x2
 have HB1:=Lib.hid (HB0.out.trans (hb1.mono HB0.out.size))
 clear hb1 HC k1 k2
 by_cases hq:a.number = b.number
 ·rw [← hq] at x2
  have HQ:Hid ((decide (a.number = b.number) && S) = S):=by show _ = _;rw [decide_eq_true hq,Bool.true_and]
  clear hq
  go_wp2
  go_ret
  exact ⟨by rw [HQ.out];rfl,HB1.out⟩
 ·have g1:=beq_f hq
  have HQ:Hid ((decide (a.number = b.number) && S) = false):=by show _ = _;rw [decide_eq_false hq,Bool.false_and]
  clear hq
  go_wp2
  go_ret
  exact ⟨by rw [HQ.out];rfl,HB1.out⟩
theorem refSame12_2 (a b:Fr) (ha:a.kind = 2) (hb:b.kind = 2) (u v:Array Value) (w:World) (hx:FLies w u a) (hy:FLies w v b) :
  Calls Tryz.prog 17 #[.agg u,.agg v] w fun e w' => e = .returned (.bool (Fr.same a b)) ∧ Below w.heap.size w w':=by
 obtain ⟨sp1,sc1,bp1,bc1,ep1,ec1,rfl,h1,h2,h3,h4,h5,h6,h7,h8,h9⟩:=hx.out
 obtain ⟨sp2,sc2,bp2,bc2,ep2,ec2,rfl,-,-,y3,-,-,y6,-,-,y9⟩:=hy.out
 unfold cells11
 have e:Fr.same a b = (decide (a.number = b.number ∧ a.seq = b.seq ∧ a.first = b.first ∧ a.rows = b.rows) && (a.block == b.block)):=by
  unfold Fr.same
  rw [hb,decide_eq_true ha,Bool.true_and]
  rw [if_neg (by omega),if_pos ha]
 rw [e,ha,hb]
 have HB0:Hid (∀ o o2,Below w.heap.size w ((w.alloc o).alloc o2)):=fun o o2 => ((Below.refl _ _).alloc (Nat.le_refl _) _).alloc (by simp) _
 have h11:=fun o o2 => conv_str (h6.on (HB0.out o o2)) bc1
 have h12:=fun o o2 => conv_str (y6.on (HB0.out o o2)) bc2
 have HE:Hid (((textOf a.block).toList == (textOf b.block).toList) = (a.block == b.block)):=by
  show _ = _
  rw [ByteArray.toList_eq,ByteArray.toList_eq,textOf_data,textOf_data]
 clear e ha hb hx hy h3 h6 h9 y3 y6 y9
 generalize textOf a.block = x at h11 HE
 generalize textOf b.block = y at h12 HE
 by_cases hall:a.number = b.number ∧ a.seq = b.seq ∧ a.first = b.first ∧ a.rows = b.rows
 ·rw [decide_eq_true hall,Bool.true_and]
  obtain ⟨e1,e2,e3,e4⟩:=hall
  rw [← e1,← e2,← e3,← e4]
  clear e1 e2 e3 e4
  go_enter Tryz.func17,Tryz.ntmps17
  go_wp2
  go_ret
  exact ⟨by rw [← HE.out];rfl,HB0.out _ _⟩
 ·rw [decide_eq_false hall,Bool.false_and]
  have hne:(¬ a.number = b.number) ∨ (a.number = b.number ∧ ¬ a.seq = b.seq) ∨ (a.number = b.number ∧ a.seq = b.seq ∧ ¬ a.first = b.first) ∨ (a.number = b.number ∧ a.seq = b.seq ∧ a.first = b.first ∧ ¬ a.rows = b.rows):=by omega
  clear hall
  rcases hne with k1 | ⟨e1,k1⟩ | ⟨e1,e2,k1⟩ | ⟨e1,e2,e3,k1⟩
  all_goals
   have g1:=beq_f k1
   try rw [← e1]
   try rw [← e2]
   try rw [← e3]
   clear k1
   go_enter Tryz.func17,Tryz.ntmps17
   go_wp2
   go_ret
   exact ⟨rfl,HB0.out _ _⟩
theorem refSame12_3 (a b:Fr) (ha:a.kind = 3) (hb:b.kind = 3) (u v:Array Value) (w:World) (hx:FLies w u a) (hy:FLies w v b) :
  Calls Tryz.prog 17 #[.agg u,.agg v] w fun e w' => e = .returned (.bool (Fr.same a b)) ∧ Below w.heap.size w w':=by
 obtain ⟨sp1,sc1,bp1,bc1,ep1,ec1,rfl,h1,h2,h3,h4,h5,h6,h7,h8,h9⟩:=hx.out
 obtain ⟨sp2,sc2,bp2,bc2,ep2,ec2,rfl,-,-,y3,-,-,y6,-,-,y9⟩:=hy.out
 unfold cells11
 have e:Fr.same a b = Idx.same a.index b.index:=by
  unfold Fr.same
  rw [hb,decide_eq_true ha,Bool.true_and]
  rw [if_neg (by omega),if_neg (by omega),if_pos ha]
 rw [e,ha,hb]
 obtain ⟨w0,hw0⟩:∃ w0,w0 = (w.alloc (.cells #[.int .i64 3,.int .i64 a.number,.slice sp1 a.cols.length sc1,.int .i64 a.seq,.int .i64 a.first,.int .i64 a.rows,.slice bp1 a.block.length bc1,.int .i64 a.index.at_,.int .i64 a.index.frames,.int .i64 a.index.rows,.slice ep1 a.index.entries.length ec1] 30)).alloc (.cells #[.int .i64 3,.int .i64 b.number,.slice sp2 b.cols.length sc2,.int .i64 b.seq,.int .i64 b.first,.int .i64 b.rows,.slice bp2 b.block.length bc2,.int .i64 b.index.at_,.int .i64 b.index.frames,.int .i64 b.index.rows,.slice ep2 b.index.entries.length ec2] 30):=⟨_,rfl⟩
 have HB0:Hid (Below w.heap.size w w0):=by rw [hw0];exact ((Below.refl _ _).alloc (Nat.le_refl _) _).alloc (by simp) _
 have HW:Hid ((w.alloc (.cells #[.int .i64 3,.int .i64 a.number,.slice sp1 a.cols.length sc1,.int .i64 a.seq,.int .i64 a.first,.int .i64 a.rows,.slice bp1 a.block.length bc1,.int .i64 a.index.at_,.int .i64 a.index.frames,.int .i64 a.index.rows,.slice ep1 a.index.entries.length ec1] 30)).alloc (.cells #[.int .i64 3,.int .i64 b.number,.slice sp2 b.cols.length sc2,.int .i64 b.seq,.int .i64 b.first,.int .i64 b.rows,.slice bp2 b.block.length bc2,.int .i64 b.index.at_,.int .i64 b.index.frames,.int .i64 b.index.rows,.slice ep2 b.index.entries.length ec2] 30) = w0):=by rw [hw0];exact rfl
 have hK0:w0.heap[w.heap.size]? = some (.cells #[.int .i64 3,.int .i64 a.number,.slice sp1 a.cols.length sc1,.int .i64 a.seq,.int .i64 a.first,.int .i64 a.rows,.slice bp1 a.block.length bc1,.int .i64 a.index.at_,.int .i64 a.index.frames,.int .i64 a.index.rows,.slice ep1 a.index.entries.length ec1] 30 (0,0)):=by rw [hw0];exact blk_first w _ _
 have hK1:w0.heap[w.heap.size + 1]? = some (.cells #[.int .i64 3,.int .i64 b.number,.slice sp2 b.cols.length sc2,.int .i64 b.seq,.int .i64 b.first,.int .i64 b.rows,.slice bp2 b.block.length bc2,.int .i64 b.index.at_,.int .i64 b.index.frames,.int .i64 b.index.rows,.slice ep2 b.index.entries.length ec2] 30 (0,0)):=by rw [hw0];exact blk_second w _ _
 have hz0:w0.heap.size = w.heap.size + 1 + 1:=by rw [hw0];simp
 have HK0:=Lib.hid hK0
 have HK1:=Lib.hid hK1
 clear hw0 hK0 hK1
 have HC:=Lib.hid (refSameIdx a.index.at_ a.index.frames a.index.rows b.index.at_ b.index.frames b.index.rows a.index.entries b.index.entries ep1 ep2 ec1 ec2 w0 h7 (h9.on HB0.out) (y9.on HB0.out))
 have HD:Hid (Idx.same ⟨a.index.at_,a.index.frames,a.index.rows,a.index.entries⟩ ⟨b.index.at_,b.index.frames,b.index.rows,b.index.entries⟩ = Idx.same a.index b.index):=rfl
 rw [HD.out] at HC
 obtain ⟨S,hS⟩:∃ S,S = Idx.same a.index b.index:=⟨_,rfl⟩
 rw [← hS] at HC ⊢
 clear e ha hb hx hy h3 h6 h9 y3 y6 y9 hS HD
 go_enter Tryz.func17,Tryz.ntmps17
 go_wp2_with fail
 rw [HW.out]
 refine HC.out.mono ?_
 rintro e w1 ⟨rfl,hb1⟩
 have HB1:=Lib.hid (HB0.out.trans (hb1.mono HB0.out.size))
 clear hb1 HC
 go_wp2
 go_ret
 exact ⟨rfl,HB1.out⟩
theorem refSame12_0 (a b:Fr) (hab:a.kind = b.kind) (g1:a.kind ≠ 1) (g2:a.kind ≠ 2) (g3:a.kind ≠ 3) (u v:Array Value) (w:World) (hx:FLies w u a) (hy:FLies w v b) :
  Calls Tryz.prog 17 #[.agg u,.agg v] w fun e w' => e = .returned (.bool (Fr.same a b)) ∧ Below w.heap.size w w':=by
 obtain ⟨sp1,sc1,bp1,bc1,ep1,ec1,rfl,h1,h2,h3,h4,h5,h6,h7,h8,h9⟩:=hx.out
 obtain ⟨sp2,sc2,bp2,bc2,ep2,ec2,rfl,-,-,y3,-,-,y6,-,-,y9⟩:=hy.out
 unfold cells11
 have e:Fr.same a b = true:=by
  unfold Fr.same
  rw [decide_eq_true hab,Bool.true_and,if_neg g1,if_neg g2,if_neg g3]
 rw [e,← hab]
 have HB0:Hid (∀ o o2,Below w.heap.size w ((w.alloc o).alloc o2)):=fun o o2 => ((Below.refl _ _).alloc (Nat.le_refl _) _).alloc (by simp) _
 have k1:=beq_f g1
 have k2:=beq_f g2
 have k3:=beq_f g3
 clear e hab g1 g2 g3 hx hy
 go_enter Tryz.func17,Tryz.ntmps17
 go_wp2
 go_ret
 exact ⟨rfl,HB0.out _ _⟩
theorem refSame12_ne (a b:Fr) (hab:¬ a.kind = b.kind) (u v:Array Value) (w:World) (hx:FLies w u a) (hy:FLies w v b) :
  Calls Tryz.prog 17 #[.agg u,.agg v] w fun e w' => e = .returned (.bool (Fr.same a b)) ∧ Below w.heap.size w w':=by
 obtain ⟨sp1,sc1,bp1,bc1,ep1,ec1,rfl,h1,h2,h3,h4,h5,h6,h7,h8,h9⟩:=hx.out
 obtain ⟨sp2,sc2,bp2,bc2,ep2,ec2,rfl,-,-,y3,-,-,y6,-,-,y9⟩:=hy.out
 unfold cells11
 have e:Fr.same a b = false:=by
  unfold Fr.same
  rw [decide_eq_false hab,Bool.false_and]
 rw [e]
 have g0:(a.kind != b.kind) = true:=by rw [bne_iff_ne];exact hab
 have HB0:Hid (∀ o o2,Below w.heap.size w ((w.alloc o).alloc o2)):=fun o o2 => ((Below.refl _ _).alloc (Nat.le_refl _) _).alloc (by simp) _
 clear e hab hx hy
 go_enter Tryz.func17,Tryz.ntmps17
 go_wp2
 go_ret
 exact ⟨rfl,HB0.out _ _⟩
theorem refSame12 (a b:Fr) (u v:Array Value) (w:World) (hx:FLies w u a) (hy:FLies w v b) :
  Calls Tryz.prog 17 #[.agg u,.agg v] w fun e w' => e = .returned (.bool (Fr.same a b)) ∧ Below w.heap.size w w':=by
 by_cases hab:a.kind = b.kind
 ·by_cases h1:a.kind = 1
  ·exact refSame12_1 a b h1 (hab ▸ h1) u v w hx hy
  by_cases h2:a.kind = 2
  ·exact refSame12_2 a b h2 (hab ▸ h2) u v w hx hy
  by_cases h3:a.kind = 3
  ·exact refSame12_3 a b h3 (hab ▸ h3) u v w hx hy
  exact refSame12_0 a b hab h1 h2 h3 u v w hx hy
 ·exact refSame12_ne a b hab u v w hx hy
end Go.Proofs.YtclhbhhlddbocaaGreatDoor
