import Derived.Test.YtjpgbaiabmiifaaGreatDoorB36
import Derived.Test.YtjpgbaiabmiifaaGreatDoorB35
set_option maxRecDepth 100000
set_option maxHeartbeats 2000000
namespace Go.Proofs.YtjpgbaiabmiifaaGreatDoor
section
open Go.RowKit Go.Shelf
attribute [local go_sem] af Oper.semAt_some
theorem sq (s:List Col) (p:Option Addr) (c:Nat) (n:Nat) (q:Option Addr) (d:Nat) (w:World) :
  Calls Tryz.prog 41 #[.agg #[.slice p s.length c],.slice q n d] w fun e w' => e = .returned (.func (.func 62) #[] #[.pointer (some ⟨w.heap.size + 1,0,none⟩),.pointer (some ⟨w.heap.size,0,none⟩)]) ∧ w' = (w.alloc (.cells #[.slice p s.length c] 31)).alloc (.cells #[.slice q n d] 26):=by
 go_enter Tryz.func41,Tryz.ntmps41
 go_wp2
 go_ret
 exact ⟨rfl,rfl⟩
theorem bw {P:Program} {fn:Func} {p q:Tmp} {ty ty2 e:TypeId} (h:fn.results = #[.cell p ty,.cell q ty2]) (tmps:Array Value) (w:World) (g g2:Nat) (v:Value) (x:Int)
  (hp:tmps.getD p undef = .pointer (some ⟨g,0,none⟩)) (hg:w.cell? ⟨g,0,none⟩ = some v) (hu:P.underlying ty = some (.slice e))
  (hq:tmps.getD q undef = .pointer (some ⟨g2,0,none⟩)) (hg2:w.cell? ⟨g2,0,none⟩ = some (.int .i64 x)) (hu2:P.underlying ty2 = some (.int .i64)) :
  (results fn tmps).run P w = .ok (.tuple #[v,.int .i64 x]) w:=by
 have hp':tmps[p]?.getD undef = .pointer (some ⟨g,0,none⟩):=by simpa using hp
 have hq':tmps[q]?.getD undef = .pointer (some ⟨g2,0,none⟩):=by simpa using hq
 have h1:(loadVar ty ⟨g,0,none⟩).run P w = .ok v w:=by
  simp [go_sem,isAgg,run_underlying hu,hg]
 have h2:(loadVar ty2 ⟨g2,0,none⟩).run P w = .ok (.int .i64 x) w:=by
  simp [go_sem,isAgg,run_underlying hu2,hg2]
 simp [results,h,hp',hq',asAddr,h1,h2]
structure dX (w w3:World) (B:Nat) (rec:Loop) (v:Value) (xs:List UInt8) (W:World):Prop where
 below:Below w.heap.size w W
 same:∀ k,k < w3.heap.size → k ≠ B → W.heap[k]? = w3.heap[k]?
 box:W.heap[B]? = some (.cells #[v] 22 (0,0))
 has:Has W (w3.heap.size + 2) v xs
 dfr:W.heap[w3.heap.size]? = some (.deferred (some []))
 lp:W.heap[w3.heap.size + 1]? = some (.loop rec)
 size:w3.heap.size + 2 ≤ W.heap.size
structure uJ (w w3:World) (rec:Loop) (er:Nat) (W:World):Prop where
 below:Below w.heap.size w W
 r1:W.heap[w.heap.size + 1]? = some (.cells #[.slice none 0 0] 22 (0,0))
 r2:W.heap[w.heap.size + 1 + 1]? = some (.cells #[.int .i64 er] 37 (0,0))
 dfr:W.heap[w3.heap.size]? = some (.deferred (some []))
 lp:W.heap[w3.heap.size + 1]? = some (.loop rec)
 far:w.heap.size + 3 ≤ w3.heap.size
section
variable {w w3 W W':World} {B:Nat} {rec:Loop} {v v':Value} {xs ys:List UInt8}
theorem dX.on (h:dX w w3 B rec v xs W) (hb:Below W.heap.size W W'):dX w w3 B rec v xs W':=by
 have hs:=h.size
 have hw:=h.below.size
 have hB:=ar h.box
 exact ⟨h.below.trans (hb.mono hw),fun k hk hne => (hb.block k (by omega)).trans (h.same k hk hne),aI h.box hb hB,h.has.on hb,aI h.dfr hb (by omega),aI h.lp hb (by omega),by have:=hb.size;omega⟩
theorem dX.turn (h:dX w w3 B rec v xs W) (hw:w.heap.size ≤ w3.heap.size) (hB:B < w3.heap.size) (rec':Loop):dX w w3 B rec' v xs (W.putObj (w3.heap.size + 1) (.loop rec')):=by
 have hs:=h.size
 refine ⟨h.below.trans (bv _ (by omega) h.below.size),fun k hk hne => (World.putObj_heap_other (by omega)).trans (h.same k hk hne),(World.putObj_heap_other (by omega)).trans h.box,h.has.aside (dv _) (fun k hk hc => ?_),(World.putObj_heap_other (by omega)).trans h.dfr,World.putObj_heap_same (by omega),by simp;omega⟩
 have:=(h.has.lt k hk).1
 omega
theorem dX.more (h:dX w w3 B rec v xs W) (hw:w.heap.size ≤ B) (hB:B < w3.heap.size) (ha:Aside (fun k => v.ownBlock = some k) W W') (hh:Has W' (w3.heap.size + 2) v' ys) :
  W'.heap[B]? = some (.cells #[v] 22 (0,0)) ∧ dX w w3 B rec v' ys (W'.setCell ⟨B,0,none⟩ v'):=by
 have hs:=h.size
 have hold:∀ k,k < w3.heap.size + 2 → W'.heap[k]? = W.heap[k]?:=fun k hk => ha.block k (by omega) (fun hc => by have:=(h.has.lt k hc).1;omega)
 have hbx:W'.heap[B]? = some (.cells #[v] 22 (0,0)):=(hold B (by omega)).trans h.box
 have hset:∀ k,k ≠ B → (W'.setCell ⟨B,0,none⟩ v').heap[k]? = W'.heap[k]?:=fun k hk => Below.heap_setCell _ _ _ _ hk
 have hbW:Below w.heap.size W W':=ha.below h.below.size (fun k hk hc => by have:=(h.has.lt k hc).1;omega)
 refine ⟨hbx,⟨(h.below.trans hbW).setCell (p:=⟨B,0,none⟩) hw _,fun k hk hne => ?_,by simpa using ai hbx 0 v',?_,?_,?_,?_⟩⟩
 ·rw [hset k hne,hold k (by omega)];exact h.same k hk hne
 ·exact hh.aside ((Aside.refl (fun k => k = B) W').setCell (p:=⟨B,0,none⟩) (.inl rfl) v') (fun k hk hc => by have:=(hh.lt k hk).1;omega)
 ·rw [hset _ (by omega),hold _ (by omega)];exact h.dfr
 ·rw [hset _ (by omega),hold _ (by omega)];exact h.lp
 ·have:=ha.size
  have:(W'.setCell ⟨B,0,none⟩ v').heap.size = W'.heap.size:=by simp [World.setCell]
  omega
end
theorem ww (HR:RowsIn) (s:List Col) (p:Option Addr) (c:Nat) (l:List (List V)) (q:Option Addr) (d:Nat) (w:World) (hS:bF w p c s) (hL:eF w q d l) :
    Calls Tryz.prog 19 #[.agg #[.slice p s.length c],.slice q l.length d] w (Told w (Bt.err s l) (Bt.out s l)):=by
  have hlen:=hL.len
  obtain ⟨W0,hW0⟩:∃ W0,W0 = ((w.alloc (.cells #[.slice p s.length c] 31)).alloc (.cells #[.slice none 0 0] 22)).alloc (.cells #[.int .i64 0] 37):=⟨_,rfl⟩
  obtain ⟨k0,k1,k2,hb0,hs0⟩:=al3 w (.cells #[.slice p s.length c] 31) (.cells #[.slice none 0 0] 22) (.cells #[.int .i64 0] 37)
  rw [← hW0] at k0 k1 k2 hb0 hs0
  have HC:=Lib.hid (oQ HR s p c l.length W0 (hS.on hb0))
  have HK:=Lib.hid (And.intro k0 (And.intro k1 k2))
  have HB0:=Lib.hid hb0
  have HW0:=Lib.hid hW0
  have HS:=Lib.hid hS
  have HL:=Lib.hid hL
  have HRI:=Lib.hid HR
  obtain ⟨R,hR⟩:∃ R,R = Bt.err s l:=⟨_,rfl⟩
  obtain ⟨O,hO⟩:∃ O,O = Bt.out s l:=⟨_,rfl⟩
  rw [← hR,← hO]
  unfold Bt.out at hO
  rw [← hR] at hO
  unfold Bt.err at hR
  obtain ⟨en,hen⟩:∃ en,en = Bt.numErr s l.length:=⟨_,rfl⟩
  rw [← hen] at HC hR
  have HRR:=Lib.hid hR
  have HO:=Lib.hid hO
  have HEn:=Lib.hid hen
  clear hb0 hW0 hS hL HR hR hO hen k0 k1 k2
  refine (callsIn_wide (n:=5)).1 ?_
  refine callsIn_of_wp_marks Tryz.func19 rfl trivial ?_ rfl
  simp only [Tryz.ntmps19,List.size_toArray,List.length_cons,List.length_nil,Nat.reduceAdd,Nat.reduceSub,Array.replicate_succ,Array.replicate_zero,List.push_toArray,List.append_toArray,List.nil_append,List.cons_append]
  gi_wp2
  refine ⟨trivial,?_⟩
  rw [← HW0.out]
  refine (callsIn_wide.2 HC.out).mono ?_
  rintro e w1 ⟨rfl,hb1⟩
  have HB1:=Lib.hid hb1
  have HBw1:=Lib.hid (HB0.out.trans (hb1.mono HB0.out.size))
  have hs1:=hb1.size
  have j0:=aI HK.out.1 hb1 (by omega)
  have j1:=aI HK.out.2.1 hb1 (by omega)
  have j2:=aI HK.out.2.2 hb1 (by omega)
  have n0:=am j0
  have n1:=am j1
  have n2:=am j2
  have f1:=aF j1
  have f2:=aF j2
  have HJ:=Lib.hid (And.intro j0 (And.intro j1 j2))
  clear hb1 HC HW0 HK HB1 j0 j1 j2
  by_cases h0:en ≠ 0
  · have g0:((en:Int) != 0) = true:=aS (by omega)
    have HE:Hid (R = en):=HRR.out.trans (if_pos h0)
    have HOn:Hid (O = []):=by show _ = _;rw [HO.out,HE.out,if_neg h0]
    clear HRR h0 HO
    gi_wp2
    have j2:=ai (au HJ.out.2.2 ⟨w.heap.size + 1,0,none⟩ (.slice none 0 0) (by simp)) 0 (.int .i64 en)
    have j1:=au (ai HJ.out.2.1 0 (.slice none 0 0)) ⟨w.heap.size + 1 + 1,0,none⟩ (.int .i64 en) (by simp)
    refine ⟨_,bw rfl _ _ (w.heap.size + 1) (w.heap.size + 1 + 1) _ _ rfl (am j1) Tryz.underlying22 rfl (am j2) Tryz.underlying37,?_⟩
    refine ⟨none,0,by rw [HOn.out,HE.out];rfl,by rw [HOn.out];exact .inl rfl,by rw [HOn.out];exact Nat.le_refl _,?_⟩
    exact (HBw1.out.setCell (p:=⟨w.heap.size + 1,0,none⟩) (by simp) _).setCell (p:=⟨w.heap.size + 1 + 1,0,none⟩) (by simp;omega) _
  have g0:((en:Int) != 0) = false:=aY (by omega)
  have HR1:=Lib.hid (HRR.out.trans (if_neg h0))
  have HEn0:Hid (Bt.numErr s l.length = 0):=by show _ = 0;rw [← HEn.out];omega
  clear HRR h0 HEn
  have z0:=fun o => ae ((Below.refl w1.heap.size w1).alloc (Nat.le_refl _) o) n0
  clear n1 n2 f1 f2
  gi_wp2
  refine ⟨trivial,?_⟩
  refine (callsIn_wide.2 (sq s p c l.length q d _)).mono ?_
  rintro e w3 ⟨rfl,hw3⟩
  obtain ⟨m0,m1,m2,mb,ms⟩:=al3 w1 (.cells #[.slice none 0 0] 22) (.cells #[.slice p s.length c] 31) (.cells #[.slice q l.length d] 26)
  rw [← hw3] at m0 m1 m2 mb ms
  have hms:w1.heap.size + 3 ≤ w3.heap.size:=by omega
  have HM:=Lib.hid (And.intro m0 (And.intro m1 (And.intro m2 mb)))
  have hBw3:=Lib.hid (HBw1.out.trans (mb.mono HBw1.out.size))
  clear hw3 m0 m1 m2 mb ms z0 n0
  gi_wp2
  refine jS (gf:=62) rfl (enters_of Tryz.func62 (by kernel_rfl) rfl) ?_
  intro fn
  generalize hrec:il fn _ _ _ _ _ = rec
  have hlo:w.heap.size + 3 ≤ w1.heap.size:=by omega
  have hww:w.heap.size ≤ w3.heap.size:=by omega
  have HREC:=Lib.hid hrec
  clear hrec
  refine (qb HRI.out.encode s p c l q d (w1.heap.size + 1) (w1.heap.size + 1 + 1) (w3.heap.size + 1) (fun i W => ∃ v,dX w w3 w1.heap.size (rec .ready none) v (Bt.bytes (l.take i)) W) (fun er W => uJ w w3 (rec .done (some .ret)) er W) _ ?hJb ?hJn ?h0 ?good ?bad).mono ?_
  case hJb =>
    rintro i W ⟨v,h⟩
    exact ⟨HS.out.on h.below,HL.out.on h.below,(h.same _ (by omega) (by omega)).trans HM.out.2.1,(h.same _ (by omega) (by omega)).trans HM.out.2.2.1⟩
  case hJn =>
    rintro i W W' ⟨v,h⟩ hb
    exact ⟨v,h.on hb⟩
  case h0 =>
    obtain ⟨a0,a1,ab,asz⟩:=al2 w3 (.deferred (some [])) (.loop (rec .ready none))
    exact ⟨.slice none 0 0,hBw3.out.trans (ab.mono hww),fun k hk _ => ab.block k hk,aI HM.out.1 ab (by omega),aT _ _,a0,a1,by omega⟩
  case good =>
    rintro m i hi W qq cap ⟨v,h⟩ hpre he hat
    have hbl:(Bt.bytes (l.take i)).length + (Rw.bytes l[i]).length ≤ 140737488355328:=by
      have h1:=Bt.bytes_bound (Bt.rowsErr_take i hpre)
      have h2:=(Rw.err_open he).2.2.2
      have h3:(l.take i).length ≤ l.length:=by rw [List.length_take];omega
      have h4:=Bt.numErr_open HEn0.out
      omega
    have hlp:=h.lp
    rw [← HREC.out] at hlp
    have hb:dX w w3 w1.heap.size (rec .busy none) v (Bt.bytes (l.take i)) (W.putObj (w3.heap.size + 1) (.loop (rec .busy none))):=h.turn hww (by omega) _
    have hat2:At (W.putObj (w3.heap.size + 1) (.loop (rec .busy none))) qq (Rw.bytes l[i]):=hat.turn h.lp _
    rw [← HREC.out] at hb hat2
    refine fk (R:=fun b W' => b = true ∧ ∃ v,dX w w3 w1.heap.size (rec .ready none) v (Bt.bytes (l.take (i + 1))) W') hlp rfl ?_
    have HBd:=Lib.hid hb
    have HAt:=Lib.hid hat2
    have HE0:=Lib.hid he
    have n7:=am hb.box
    have HLp:=Lib.hid hlp
    clear hat hat2 he hpre hlp hb
    gi_wp2
    refine ⟨HLp.out,?_⟩
    gi_wp2_with (first
      | (gi_at_builtin
         refine mO HBd.out.has HAt.out hbl HBd.out.size rfl rfl rfl rfl rfl ?_
         intro ys q3 cap3 W3 HY hh ha _
         obtain ⟨hbx,hj⟩:=HBd.out.more (by omega) (by omega) ha hh
         have n8:=am hbx
         have f8:=aF hbx
         have HJ3:=Lib.hid hj
         clear hh ha hbx hj)
      | fail)
    refine ⟨HJ3.out.lp,rfl,.slice q3 ys.length cap3,?_⟩
    have ht:=HJ3.out.turn hww (by omega) (rec .ready none)
    rw [← HREC.out] at ht ⊢
    have hy:ys = Bt.bytes (l.take (i + 1)):=by rw [HY.out,Bt.bytes_take l i hi]
    rw [← hy]
    exact ht
  case bad =>
    rintro m i hi W qq cap ⟨v,h⟩ he
    obtain ⟨er,her⟩:∃ er,er = Rw.err s l[i]:=⟨_,rfl⟩
    rw [← her] at he ⊢
    have g1:((er:Int) != 0) = true:=aS (by omega)
    have hlp:=h.lp
    rw [← HREC.out] at hlp
    have hb:dX w w3 w1.heap.size (rec .busy none) v (Bt.bytes (l.take i)) (W.putObj (w3.heap.size + 1) (.loop (rec .busy none))):=h.turn hww (by omega) _
    rw [← HREC.out] at hb
    refine fk (R:=fun b W' => b = false ∧ uJ w w3 (rec .done (some .ret)) er W') hlp rfl ?_
    have j1:W.heap[w.heap.size + 1]? = some (.cells #[.slice none 0 0] 22 (0,0)):=(h.same _ (by omega) (by omega)).trans (aI HJ.out.2.1 HM.out.2.2.2 (by omega))
    have j2:W.heap[w.heap.size + 1 + 1]? = some (.cells #[.int .i64 0] 37 (0,0)):=(h.same _ (by omega) (by omega)).trans (aI HJ.out.2.2 HM.out.2.2.2 (by omega))
    obtain ⟨Wb,hWb⟩:∃ Wb,Wb = W.putObj (w3.heap.size + 1) (.loop (rec .busy none)):=⟨_,rfl⟩
    have b1:Wb.heap[w.heap.size + 1]? = some (.cells #[.slice none 0 0] 22 (0,0)):=by rw [hWb];exact (World.putObj_heap_other (by omega)).trans j1
    have b2:Wb.heap[w.heap.size + 1 + 1]? = some (.cells #[.int .i64 0] 37 (0,0)):=by rw [hWb];exact (World.putObj_heap_other (by omega)).trans j2
    rw [← HREC.out] at hWb
    rw [← hWb] at hb
    have HBd:=Lib.hid hb
    have HLp:=Lib.hid hlp
    have n1:=am b1
    have f1:=aF b1
    have n2:=am b2
    have f2:=aF b2
    have HB12:=Lib.hid (And.intro b1 b2)
    have HWb:=Lib.hid hWb
    clear hlp hb j1 j2 b1 b2 hWb h her he
    gi_wp2
    refine ⟨HLp.out,?_⟩
    rw [← HWb.out]
    gi_wp2
    have c2:=ai (au HB12.out.2 ⟨w.heap.size + 1,0,none⟩ (.slice none 0 0) (by simp)) 0 (.int .i64 er)
    have c1:=au (ai HB12.out.1 0 (.slice none 0 0)) ⟨w.heap.size + 1 + 1,0,none⟩ (.int .i64 er) (by simp)
    have hset:∀ k,w.heap.size + 2 < k → ((Wb.setCell ⟨w.heap.size + 1,0,none⟩ (.slice none 0 0)).setCell ⟨w.heap.size + 1 + 1,0,none⟩ (.int .i64 er)).heap[k]? = Wb.heap[k]?:=fun k hk => by
      rw [Below.heap_setCell _ _ _ _ (by simp;omega),Below.heap_setCell _ _ _ _ (by simp;omega)]
    have hbl:=((HBd.out.below.setCell (p:=⟨w.heap.size + 1,0,none⟩) (by simp) (.slice none 0 0)).setCell (p:=⟨w.heap.size + 1 + 1,0,none⟩) (by simp;omega) (.int .i64 er))
    have hlp2:=(hset (w3.heap.size + 1) (by omega)).trans HBd.out.lp
    have hdf2:=(hset w3.heap.size (by omega)).trans HBd.out.dfr
    refine ⟨hlp2,rfl,?_⟩
    rw [HREC.out]
    exact ⟨hbl.trans (bv _ (by omega) hbl.size),(World.putObj_heap_other (by omega)).trans (by simpa using c1),(World.putObj_heap_other (by omega)).trans (by simpa using c2),(World.putObj_heap_other (by omega)).trans hdf2,World.putObj_heap_same (ar hlp2),by omega⟩
  rintro e W4 ⟨⟨v4,rfl⟩,⟨hre,v,hJ4⟩ | ⟨hre,hX4⟩⟩
  · rw [List.take_length] at hJ4
    have h5:=hJ4.turn hww (by omega) (rec .exhausted none)
    refine ⟨⟨_,rfl⟩,.inl ⟨hJ4.lp,?_⟩⟩
    obtain ⟨W5,hW5⟩:∃ W5,W5 = W4.putObj (w3.heap.size + 1) (.loop (rec .exhausted none)):=⟨_,rfl⟩
    rw [← hW5] at h5 ⊢
    obtain ⟨pv,cv,rfl,hat,hcv⟩:=h5.has.at
    have HR2:=Lib.hid (HR1.out.trans (if_neg (by rw [hre];simp)))
    have j1:W5.heap[w.heap.size + 1]? = some (.cells #[.slice none 0 0] 22 (0,0)):=(h5.same _ (by omega) (by omega)).trans (aI HJ.out.2.1 HM.out.2.2.2 (by omega))
    have j2:W5.heap[w.heap.size + 1 + 1]? = some (.cells #[.int .i64 0] 37 (0,0)):=(h5.same _ (by omega) (by omega)).trans (aI HJ.out.2.2 HM.out.2.2.2 (by omega))
    obtain ⟨bs,hbs⟩:∃ bs,bs = Bt.bytes l:=⟨_,rfl⟩
    rw [← hbs] at h5 hat hcv HR2 HO
    have H5:=Lib.hid h5
    have HAt:=Lib.hid hat
    have n7:=am h5.box
    have n1:=am j1
    have f1:=aF j1
    have n2:=am j2
    have f2:=aF j2
    have HJ12:=Lib.hid (And.intro j1 j2)
    clear hJ4 h5 hat j1 j2 hW5 hre hbs HR1
    by_cases hlong:2048 < bs.length
    · have HE:Hid (R = 2):=HR2.out.trans (if_pos hlong)
      have HOn:Hid (O = []):=by show _ = _;rw [HO.out,HE.out,if_neg (by decide)]
      clear HR2 HO
      gi_wp2
      have c2:=ai (au HJ12.out.2 ⟨w.heap.size + 1,0,none⟩ (.slice none 0 0) (by simp)) 0 (.int .i64 2)
      have c1:=au (ai HJ12.out.1 0 (.slice none 0 0)) ⟨w.heap.size + 1 + 1,0,none⟩ (.int .i64 2) (by simp)
      have hdf:((W5.setCell ⟨w.heap.size + 1,0,none⟩ (.slice none 0 0)).setCell ⟨w.heap.size + 1 + 1,0,none⟩ (.int .i64 2)).heap[w3.heap.size]? = some (.deferred (some [])):=by
        rw [Below.heap_setCell _ _ _ _ (by simp;omega),Below.heap_setCell _ _ _ _ (by simp;omega)];exact H5.out.dfr
      have hbl:=((H5.out.below.setCell (p:=⟨w.heap.size + 1,0,none⟩) (by simp) (.slice none 0 0)).setCell (p:=⟨w.heap.size + 1 + 1,0,none⟩) (by simp;omega) (.int .i64 2))
      refine ⟨by simp,.inl ⟨_,_,rfl,run_takeDeferred hdf,?_⟩⟩
      refine ⟨_,bw rfl _ _ (w.heap.size + 1) (w.heap.size + 1 + 1) _ _ rfl (am ((World.putObj_heap_other (by omega)).trans c1)) Tryz.underlying22 rfl (am ((World.putObj_heap_other (by omega)).trans c2)) Tryz.underlying37,?_⟩
      exact ⟨none,0,by rw [HOn.out,HE.out];rfl,by rw [HOn.out];exact .inl rfl,by rw [HOn.out];exact Nat.le_refl _,hbl.trans (bv _ (by omega) hbl.size)⟩
    · have HE:Hid (R = 0):=HR2.out.trans (if_neg hlong)
      have HOn:Hid (O = bs):=by show _ = _;rw [HO.out,HE.out,if_pos rfl]
      clear HR2 HO
      gi_wp2
      have c2:=ai (au HJ12.out.2 ⟨w.heap.size + 1,0,none⟩ (.slice pv bs.length cv) (by simp)) 0 (.int .i64 0)
      have c1:=au (ai HJ12.out.1 0 (.slice pv bs.length cv)) ⟨w.heap.size + 1 + 1,0,none⟩ (.int .i64 0) (by simp)
      have hdf:((W5.setCell ⟨w.heap.size + 1,0,none⟩ (.slice pv bs.length cv)).setCell ⟨w.heap.size + 1 + 1,0,none⟩ (.int .i64 0)).heap[w3.heap.size]? = some (.deferred (some [])):=by
        rw [Below.heap_setCell _ _ _ _ (by simp;omega),Below.heap_setCell _ _ _ _ (by simp;omega)];exact H5.out.dfr
      have hbl:=((H5.out.below.setCell (p:=⟨w.heap.size + 1,0,none⟩) (by simp) (.slice pv bs.length cv)).setCell (p:=⟨w.heap.size + 1 + 1,0,none⟩) (by simp;omega) (.int .i64 0))
      have hh:Has _ _ _ _:=(H5.out.has.aside ((((Aside.refl (fun k => k < w3.heap.size + 1) W5).setCell (p:=⟨w.heap.size + 1,0,none⟩) (.inl (by simp;omega)) (.slice pv bs.length cv)).setCell (p:=⟨w.heap.size + 1 + 1,0,none⟩) (.inl (by simp;omega)) (.int .i64 0))) (fun k hk hc => by have:=(H5.out.has.lt k hk).1;omega))
      have hh2:=hh.aside (dv (l:=w3.heap.size) (.deferred none)) (fun k hk hc => by have:=(hh.lt k hk).1;omega)
      refine ⟨by simp,.inl ⟨_,_,rfl,run_takeDeferred hdf,?_⟩⟩
      refine ⟨_,bw rfl _ _ (w.heap.size + 1) (w.heap.size + 1 + 1) _ _ rfl (am ((World.putObj_heap_other (by omega)).trans c1)) Tryz.underlying22 rfl (am ((World.putObj_heap_other (by omega)).trans c2)) Tryz.underlying37,?_⟩
      exact ⟨pv,cv,by rw [HOn.out,HE.out];rfl,by rw [HOn.out];exact hh2.here,by rw [HOn.out];exact hcv,hbl.trans (bv _ (by omega) hbl.size)⟩
  · refine ⟨⟨_,rfl⟩,.inr ⟨hX4.lp,?_⟩⟩
    have HX:=Lib.hid hX4
    have HE:Hid (R = Bt.rowsErr s l):=HR1.out.trans (if_pos hre)
    have HOn:Hid (O = []):=by show _ = _;rw [HO.out,HE.out,if_neg hre]
    clear hX4 hre HR1 HO
    gi_wp2
    have hdf:(W4.putObj (w3.heap.size + 1) (.loop (rec .exhausted (some .ret)))).heap[w3.heap.size]? = some (.deferred (some [])):=(World.putObj_heap_other (by omega)).trans HX.out.dfr
    have hbl:=HX.out.below.trans (bv (l:=w3.heap.size + 1) (.loop (rec .exhausted (some .ret))) (by omega) HX.out.below.size)
    refine ⟨by simp,.inl ⟨_,_,rfl,run_takeDeferred hdf,?_⟩⟩
    refine ⟨_,bw rfl _ _ (w.heap.size + 1) (w.heap.size + 1 + 1) _ _ rfl (am ((World.putObj_heap_other (by omega)).trans ((World.putObj_heap_other (by omega)).trans HX.out.r1))) Tryz.underlying22 rfl (am ((World.putObj_heap_other (by omega)).trans ((World.putObj_heap_other (by omega)).trans HX.out.r2))) Tryz.underlying37,?_⟩
    exact ⟨none,0,by rw [HOn.out,HE.out];rfl,by rw [HOn.out];exact .inl rfl,by rw [HOn.out];exact Nat.le_refl _,hbl.trans (bv _ (by omega) hbl.size)⟩
end
section
open Go.RowKit
attribute [local go_sem] af
theorem uW (HR:RowsIn) (s:List Col) (p:Option Addr) (c:Nat) (l:List (List V)) (q:Option Addr) (d:Nat) (w:World) (hS:bF w p c s) (hL:eF w q d l) :
  Calls Tryz.prog 7 #[.agg #[.slice p s.length c],.slice q l.length d] w (qt w (Bt.pack s l)):=by
 obtain ⟨W0,hW0⟩:∃ W0,W0 = w.alloc (.cells #[.slice p s.length c] 31):=⟨_,rfl⟩
 have hb0:Below w.heap.size w W0:=by rw [hW0];exact (Below.refl _ _).alloc (Nat.le_refl _) _
 have HJ:=Lib.hid (ww HR s p c l q d W0 (hS.on hb0) (hL.on hb0))
 obtain ⟨P,hP⟩:∃ P,P = Bt.pack s l:=⟨_,rfl⟩
 rw [← hP]
 unfold Bt.pack at hP
 have hbd:=fun h => (Bt.err_open (s:=s) (l:=l) h).2.2
 have hO:Bt.out s l = if Bt.err s l = 0 then Bt.bytes l else []:=rfl
 obtain ⟨R,hR⟩:∃ R,R = Bt.err s l:=⟨_,rfl⟩
 obtain ⟨O,hO'⟩:∃ O,O = Bt.out s l:=⟨_,rfl⟩
 obtain ⟨bs,hbs⟩:∃ bs,bs = Bt.bytes l:=⟨_,rfl⟩
 rw [← hO',← hR,← hbs] at hO
 rw [← hR,← hO'] at HJ
 rw [← hR,← hbs] at hP
 rw [← hR,← hbs] at hbd
 have HB:=Lib.hid hb0
 have HW:=Lib.hid hW0
 have HP:=Lib.hid hP
 have HO:=Lib.hid hO
 have HBd:=Lib.hid hbd
 clear hb0 hW0 hR hO hO' hP hbs hbd
 go_enter Tryz.func7,Tryz.ntmps7
 go_wp2_with fail
 rw [← HW.out]
 refine HJ.out.mono ?_
 rintro e w1 ⟨q1,c1,rfl,hat,hc1,hb1⟩
 have hB1:=HB.out.trans (hb1.mono HB.out.size)
 have HB1:=Lib.hid hB1
 have hs1:=hB1.size
 clear hb1 HJ hB1
 by_cases h0:R = 0
 ·have e1:O = bs:=by rw [HO.out,if_pos h0]
  subst e1
  have HP1:Hid (P = Blk.pack O):=by show _ = _;rw [HP.out,if_pos h0]
  have hle:=HBd.out h0
  have HPk:=Lib.hid (vX O q1 c1 w1 (by omega) hc1 hat)
  have g0:((R:Int) != 0) = false:=aY (by omega)
  rw [← HP1.out] at HPk
  clear HP HO HBd hat h0 HP1
  go_wp2_with fail
  refine HPk.out.mono ?_
  rintro e w2 ⟨q2,m2,c2,rfl,hm2,hh2,hb2⟩
  subst hm2
  have HH:=Lib.hid hh2
  have HB2:=Lib.hid (HB1.out.trans (hb2.mono hs1))
  clear hh2 hb2
  go_wp2
  go_ret2
  exact ⟨q2,_,c2,rfl,rfl,HH.out.lower hs1,HB2.out⟩
 ·have HP1:Hid (P = ⟨R,[]⟩):=by show _ = _;rw [HP.out,if_neg h0]
  have g0:((R:Int) != 0) = true:=aS (by omega)
  clear HP HO HBd hat h0
  go_wp2
  go_ret2
  rw [HP1.out]
  exact ⟨none,0,0,rfl,rfl,aT _ _,HB1.out⟩
end
end Go.Proofs.YtjpgbaiabmiifaaGreatDoor
