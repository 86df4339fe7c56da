import Derived.Test.YtllbniljgcgbeaaGreatDoorA14
import Derived.Test.YtllbniljgcgbeaaGreatDoorB12
import Derived.Test.YtllbniljgcgbeaaGreatDoorA17
set_option maxRecDepth 100000
set_option maxHeartbeats 8000000
namespace Go.Proofs.YtllbniljgcgbeaaGreatDoor
open Go.RowKit
attribute [local go_sem] run_store_float
def cjn (s:List Col) (j:Nat):Tx.Bs:=Tx.join ((s.take j).map (Tx.col text))
theorem cjn_next (s:List Col) (j:Nat) (h:j < s.length):cjn s (j + 1) = cjn s j ++ ((if j = 0 then [] else [44,32]) ++ Tx.col text s[j]):=by
 unfold cjn
 rw [List.take_succ_eq_append_getElem h,List.map_append]
 by_cases hj:j = 0
 ·subst hj
  simp [Tx.join]
 ·rw [List.map_cons,List.map_nil,join_snoc _ _ (fun hc => by have:=congrArg List.length hc;rw [List.length_map,List.length_take] at this;simp only [List.length_nil] at this;omega),if_neg hj]
  simp
theorem cjn_end (s:List Col) (j:Nat) (h:s.length ≤ j):cjn s j = Tx.sch text s:=by unfold cjn Tx.sch;rw [List.take_of_length_le h]
theorem cjn_len (s:List Col) (j:Nat):(cjn s j).length ≤ (Tx.sch text s).length:=by
 have:=join_take (s.map (Tx.col text)) j
 unfold cjn Tx.sch
 rw [List.map_take]
 exact this
theorem appendColumnsX (s:List Col) (hn:s.length ≤ 16) (hty:∀ x ∈ s,Ty.check 1 x.ty = 0) (hdf:∀ x ∈ s,x.has = true → AppV x.dflt) (p:Option Addr) (c:Nat) (w0 w:World) (hv0:Hv w0) (hx:Cols w0 p s) (hb0:Below w0.heap.size w0 w) (v:Value) (xs:List UInt8) (hv:Has w w0.heap.size v xs) (hlen:xs.length + (Tx.sch text s).length ≤ 139000000000000) :
    Calls Tryz.prog 41 #[v,.slice p s.length c] w (GrxV w w0.heap.size (xs ++ Tx.sch text s)):=by
  have hBs:=hb0.size
  obtain ⟨q4,cap4,rfl,-,-⟩:=hv.at
  have HV:=Lib.hid hv
  have HB0:=Lib.hid hb0
  have HX:=Lib.hid hx
  have HTy:=Lib.hid hty
  have HDf:=Lib.hid hdf
  have HH0:=Lib.hid hv0
  obtain ⟨n,hnn⟩:∃ n,n = s.length:=⟨_,rfl⟩
  have HN:=Lib.hid hnn
  rw [← hnn] at hn ⊢
  have hnI:(n:Int) ≤ 16:=by omega
  have HLen:Hid (∀ j,xs.length + (cjn s j).length ≤ 139000000000000):=fun j => by have:=cjn_len s j;omega
  have HEnd:Hid (∀ j,n ≤ j → xs ++ cjn s j = xs ++ Tx.sch text s):=fun j hj => by rw [cjn_end s j (by omega)]
  obtain ⟨L,hL⟩:∃ L,L = xs ++ Tx.sch text s:=⟨_,rfl⟩
  rw [← hL] at HEnd ⊢
  have HZ0:Hid (xs = xs ++ cjn s 0):=by show _ = _;simp [cjn,Tx.join]
  clear hv hb0 hx hty hdf hv0 hnn hlen hL
  go_enter Tryz.func41,Tryz.ntmps41
  go_wp2_with fail
  go_loopw [0,9] (fun v0 v9 wr => ∃ (j:Nat) (zs:List UInt8) (q:Option Addr) (cap:Nat),j ≤ n ∧ v9 = .int .i64 j ∧ v0 = .slice q zs.length cap ∧ Hid (zs = xs ++ cjn s j ∧ Grx w w0.heap.size wr (.slice q zs.length cap) zs)) (fun _ v9 _ => n - (intOf v9).toNat)
  case atStart => exact ⟨0,xs,q4,cap4,by omega,rfl,rfl,HZ0.out,Grx.refl HV.out⟩
  case round =>
    obtain ⟨j,zs,q,cap,hj,rfl,rfl,HL⟩:=hrel
    have hbr:Below w0.heap.size w0 wr:=HB0.out.trans (HL.out.2.below hBs)
    by_cases hlt:j < n
    · have hltT:j < s.length:=by have:=HN.out;omega
      obtain ⟨ux,hcx,hix⟩:=HX.out j hltT
      obtain ⟨bx,ox,kx,tp,tn,tc,vk,vi,vb,vt,vp,vn,vc,rfl,hbx,h9,htl,hvl⟩:=HX.out.at j hltT
      clear hcx hix ux
      unfold cells2 at htl
      unfold cells5 at hvl
      have h9:=h9.on hbr
      obtain ⟨a0,a1,a2,a3,a4,a5,a6,a7,a8⟩:=h9
      have hj1:(j:Int) < (n:Int):=by omega
      have hl1:=HLen.out (j + 1)
      have hnx:=cjn_next s j hltT
      have hck:=HTy.out _ (List.getElem_mem hltT)
      have hdv:=HDf.out _ (List.getElem_mem hltT)
      obtain ⟨xc,hxc⟩:∃ xc,xc = s[j]'hltT:=⟨_,rfl⟩
      rw [← hxc] at hnx hck hdv htl hvl a0 a3
      obtain ⟨nm,ty,has,df⟩:=xc
      dsimp only at hck hdv htl hvl a0 a3
      have hcol:Tx.col text ⟨nm,ty,has,df⟩ = nm.data.toList ++ 32 :: (Tx.ty ty ++ (if has then 32 :: 61 :: 32 :: Tx.val text df else [])):=rfl
      rw [hcol] at hnx
      have HCt:Hid (∀ w' v' l,Below w0.heap.size w0 w' → Has w' w0.heap.size v' l → l.length ≤ 140000000000000 → Calls Tryz.prog 70 #[v',.agg #[.int .i64 kx,.slice tp tn tc]] w' (GrxV w' w0.heap.size (l ++ Tx.ty ty))):=fun w' v' l h1 h2 h3 => appendTypeX ty 1 w0 w' _ v' l hck HH0.out htl h1 h2 (by omega)
      have HCv:Hid (has = true → ∀ w' v' l,Below w0.heap.size w0 w' → Has w' w0.heap.size v' l → l.length + (Tx.val text df).length ≤ 140000000000000 → Calls Tryz.prog 42 #[v',.agg #[.int .i64 vk,.int .i64 vi,.float .f64 vb,.string vt,.slice vp vn vc]] w' (GrxV w' w0.heap.size (l ++ Tx.val text df))):=fun hh w' v' l h1 h2 h3 => hdv hh w0 w' _ v' l HH0.out hvl h1 h2 h3
      obtain ⟨tt,htt⟩:∃ tt,tt = Tx.ty ty:=⟨_,rfl⟩
      obtain ⟨dd,hdd⟩:∃ dd,dd = Tx.val text df:=⟨_,rfl⟩
      rw [← htt] at HCt hnx
      rw [← hdd] at HCv hnx
      have hzl:zs.length = xs.length + (cjn s j).length:=by rw [HL.out.1,List.length_append]
      have HZe:Hid (zs = xs ++ cjn s j):=HL.out.1
      have hns:nm.data.toList.length = nm.size:=by rw [Array.length_toList];rfl
      obtain ⟨wa,hwa⟩:∃ wa,wa = wr.alloc (.cells #[.string nm,.int .i64 kx,.slice tp tn tc,.bool has,.int .i64 vk,.int .i64 vi,.float .f64 vb,.string vt,.slice vp vn vc] 38):=⟨_,rfl⟩
      have hba:Below wr.heap.size wr wa:=by rw [hwa];exact (Below.refl _ _).alloc (Nat.le_refl _) _
      have hblk:wa.heap[wr.heap.size]? = some (.cells #[.string nm,.int .i64 kx,.slice tp tn tc,.bool has,.int .i64 vk,.int .i64 vi,.float .f64 vb,.string vt,.slice vp vn vc] 38 (0,0)):=by rw [hwa];exact blk_new wr _
      have HBlk:=Lib.hid hblk
      have HHa:=Lib.hid (HL.out.2.has.on hba)
      have HGa:=Lib.hid (HL.out.2.on hba)
      have hBa:w0.heap.size ≤ wa.heap.size:=Nat.le_trans hbr.size hba.size
      have HWa:=Lib.hid hwa
      have d0:wa.cell? ⟨wr.heap.size,0,none⟩ = some (.string nm):=blk_cell hblk 0
      clear hck hdv htl hvl hcol hxc htt hdd hwa hba hbr HL hbx hblk HX HTy HDf
      have hlx:=congrArg List.length hnx
      simp only [List.length_append] at hlx
      cases has with
      | false =>
        by_cases hj0:j = 0
        · have g0:¬ (0:Int) < (j:Int):=by omega
          have gd1:decide ((0:Int) < (j:Int)) = false:=decide_eq_false g0
          have gd2:decide (0 < j) = false:=decide_eq_false (by omega)
          have HZ:Hid (xs ++ cjn s (j + 1) = zs ++ (nm.data.toList ++ 32 :: (tt ++ []))):=by show _ = _;rw [hnx,if_pos hj0,HZe.out];simp
          have hzz:=congrArg List.length HZ.out
          simp only [List.length_append,List.length_cons,List.length_nil] at hzz
          rw [hns] at hzz
          have hlim:zs.length + 0 + nm.size + 1 + tt.length ≤ 139000000000000:=by omega
          clear hnx hj0 hlx hzz hl1 hzl HLen HEnd
          clear HCv
          go_wp2_with (first
            | (at_builtin;rw [← HWa.out];refine wp_ontoS (B:=w0.heap.size) (t:=nm) HHa.out (by omega) hBa rfl rfl rfl rfl rfl ?_;intro ys6 q6 cap6 W6 HY6 hH6 ha6 hb6
               have HG6:=Lib.hid (HGa.out.trans (Grx.of ⟨hH6,ha6,hb6⟩ HHa.out))
               have hk6:=(Grx.of ⟨hH6,ha6,hb6⟩ HHa.out).blk HBlk.out (by decide)
               clear hH6 ha6 hb6)
            | fail)
          have hy6:ys6.length ≤ zs.length + nm.size:=by rw [HY6.out,List.length_append,hns];omega
          have f1:W6.cell? ⟨wr.heap.size,1,none⟩ = some (.int .i64 kx):=blk_cell hk6 1
          have f2:W6.cell? ⟨wr.heap.size,2,none⟩ = some (.slice tp tn tc):=blk_cell hk6 2
          have HK6:=Lib.hid hk6
          have z1:∀ o,(W6.alloc o).cell? ⟨wr.heap.size,1,none⟩ = some (.int .i64 kx):=fun o => blk_cell ((blk_old W6 o (blk_lt hk6)).trans hk6) 1
          have z2:∀ o,(W6.alloc o).cell? ⟨wr.heap.size,2,none⟩ = some (.slice tp tn tc):=fun o => blk_cell ((blk_old W6 o (blk_lt hk6)).trans hk6) 2
          have hB6:w0.heap.size ≤ W6.heap.size:=Nat.le_trans hBs HG6.out.size
          have hyl6:ys6.length ≤ 139000000000000:=by omega
          have HH6:=Lib.hid HG6.out.has
          clear hk6 d0 a0 a1 a2 a3 a4 a5 a6 a7 a8 HWa HBlk
          go_region_law (first
            | (refine step_pushG (B:=w0.heap.size) (xs:=ys6) (v:=.slice q6 ys6.length cap6) (w:=W6.drew) (H:=W6.heap.size) (by rfl) HH6.out.drew 32 (by omega) hB6 (.tmp 22) (.tmp 23) (by rfl) (by rfl) (by rfl) (by rfl) (by rfl) (by rfl) ?_
               intro q7 cap7 W7 ys7 HY7 hg7
               have hgx:=Grx.of hg7.undrew HH6.out
               have HG7:=Lib.hid (HG6.out.trans hgx)
               have hk7:=hgx.blk HK6.out (by decide)
               have HK7:=Lib.hid hk7
               have g1:W7.cell? ⟨wr.heap.size,1,none⟩ = some (.int .i64 kx):=blk_cell hk7 1
               have g2:W7.cell? ⟨wr.heap.size,2,none⟩ = some (.slice tp tn tc):=blk_cell hk7 2
               have HB7:=Lib.hid (HB0.out.trans (HG7.out.below hBs))
               have hyl7:ys7.length ≤ ys6.length + 1:=by (rw [HY7.out,List.length_append,List.length_singleton];omega)
               clear hg7 hgx hk7)
            | (refine step_call2 (.tmp 24) (.tmp 26) 79 32 (by rfl) (by rfl) (by rfl) (by rfl) Tryz.func70 (by kernel_rfl) (by rfl) (HCt.out W7 (.slice q7 ys7.length cap7) ys7 HB7.out HG7.out.has (by omega)) ?_
               intro e w8 hh
               obtain ⟨q8,cap8,he8,hg8⟩:=hh.open
               refine ⟨_,he8,?_⟩
               have HG8:=Lib.hid (HG7.out.trans hg8)
               have hk8:=hg8.blk HK7.out (by decide)
               obtain ⟨l8,hl8⟩:∃ l8,l8 = ys7 ++ tt:=⟨_,rfl⟩
               rw [← hl8] at HG8 ⊢
               have HL8:=Lib.hid hl8
               have hl8n:l8.length ≤ ys6.length + 1 + tt.length:=by (rw [hl8,List.length_append];omega)
               clear hh hg8 he8 hl8))
          all_goals
            clear f1 f2 g1 g2 z1 z2
            have m3:w8.cell? ⟨wr.heap.size,3,none⟩ = some (.bool false):=blk_cell hk8 3
            clear hk8
            go_wp2
            go_roundw
            case rel => exact ⟨j + 1,l8,q8,cap8,by omega,by go_num,rfl,by rw [HZ.out,HL8.out,HY7.out,HY6.out];simp,HG8.out⟩
            case measure => simp [intOf];omega
        · have g0:(0:Int) < (j:Int):=by omega
          have gd1:decide ((0:Int) < (j:Int)) = true:=decide_eq_true g0
          have gd2:decide (0 < j) = true:=decide_eq_true (by omega)
          have HZ:Hid (xs ++ cjn s (j + 1) = zs ++ [44,32] ++ (nm.data.toList ++ 32 :: (tt ++ []))):=by show _ = _;rw [hnx,if_neg hj0,HZe.out];simp
          have hzz:=congrArg List.length HZ.out
          simp only [List.length_append,List.length_cons,List.length_nil] at hzz
          rw [hns] at hzz
          have hlim:zs.length + 2 + nm.size + 1 + tt.length ≤ 139000000000000:=by omega
          clear hnx hj0 hlx hzz hl1 hzl HLen HEnd
          clear HCv
          go_wp2_with (first
            | (at_builtin;rw [← HWa.out];refine wp_ontoS (B:=w0.heap.size) (t:=⟨#[44,32]⟩) HHa.out (by rw [show (ByteArray.mk #[44,32]).size = 2 from rfl];omega) hBa rfl rfl rfl rfl rfl ?_;intro ys5 q5 cap5 W5 HY5 hH5 ha5 hb5
               have HG5:=Lib.hid (HGa.out.trans (Grx.of ⟨hH5,ha5,hb5⟩ HHa.out))
               have hk5:=(Grx.of ⟨hH5,ha5,hb5⟩ HHa.out).blk HBlk.out (by decide)
               have HK5:=Lib.hid hk5
               have e0:W5.cell? ⟨wr.heap.size,0,none⟩ = some (.string nm):=blk_cell hk5 0
               have hB5:w0.heap.size ≤ W5.heap.size:=Nat.le_trans hBs HG5.out.size
               have hy5:ys5.length ≤ zs.length + 2:=by (rw [HY5.out,List.length_append];exact Nat.le_refl _)
               clear hH5 ha5 hb5 hk5)
            | (at_builtin;refine wp_ontoS (B:=w0.heap.size) (t:=nm) HG5.out.has (by omega) hB5 rfl rfl rfl rfl rfl ?_;intro ys6 q6 cap6 W6 HY6 hH6 ha6 hb6
               have HG6:=Lib.hid (HG5.out.trans (Grx.of ⟨hH6,ha6,hb6⟩ HG5.out.has))
               have hk6:=(Grx.of ⟨hH6,ha6,hb6⟩ HG5.out.has).blk HK5.out (by decide)
               clear hH6 ha6 hb6)
            | fail)
          have hy6:ys6.length ≤ zs.length + 2 + nm.size:=by rw [HY6.out,List.length_append,hns];omega
          clear e0
          have f1:W6.cell? ⟨wr.heap.size,1,none⟩ = some (.int .i64 kx):=blk_cell hk6 1
          have f2:W6.cell? ⟨wr.heap.size,2,none⟩ = some (.slice tp tn tc):=blk_cell hk6 2
          have HK6:=Lib.hid hk6
          have z1:∀ o,(W6.alloc o).cell? ⟨wr.heap.size,1,none⟩ = some (.int .i64 kx):=fun o => blk_cell ((blk_old W6 o (blk_lt hk6)).trans hk6) 1
          have z2:∀ o,(W6.alloc o).cell? ⟨wr.heap.size,2,none⟩ = some (.slice tp tn tc):=fun o => blk_cell ((blk_old W6 o (blk_lt hk6)).trans hk6) 2
          have hB6:w0.heap.size ≤ W6.heap.size:=Nat.le_trans hBs HG6.out.size
          have hyl6:ys6.length ≤ 139000000000000:=by omega
          have HH6:=Lib.hid HG6.out.has
          clear hk6 d0 a0 a1 a2 a3 a4 a5 a6 a7 a8 HWa HBlk
          go_region_law (first
            | (refine step_pushG (B:=w0.heap.size) (xs:=ys6) (v:=.slice q6 ys6.length cap6) (w:=W6.drew) (H:=W6.heap.size) (by rfl) HH6.out.drew 32 (by omega) hB6 (.tmp 22) (.tmp 23) (by rfl) (by rfl) (by rfl) (by rfl) (by rfl) (by rfl) ?_
               intro q7 cap7 W7 ys7 HY7 hg7
               have hgx:=Grx.of hg7.undrew HH6.out
               have HG7:=Lib.hid (HG6.out.trans hgx)
               have hk7:=hgx.blk HK6.out (by decide)
               have HK7:=Lib.hid hk7
               have g1:W7.cell? ⟨wr.heap.size,1,none⟩ = some (.int .i64 kx):=blk_cell hk7 1
               have g2:W7.cell? ⟨wr.heap.size,2,none⟩ = some (.slice tp tn tc):=blk_cell hk7 2
               have HB7:=Lib.hid (HB0.out.trans (HG7.out.below hBs))
               have hyl7:ys7.length ≤ ys6.length + 1:=by (rw [HY7.out,List.length_append,List.length_singleton];omega)
               clear hg7 hgx hk7)
            | (refine step_call2 (.tmp 24) (.tmp 26) 79 32 (by rfl) (by rfl) (by rfl) (by rfl) Tryz.func70 (by kernel_rfl) (by rfl) (HCt.out W7 (.slice q7 ys7.length cap7) ys7 HB7.out HG7.out.has (by omega)) ?_
               intro e w8 hh
               obtain ⟨q8,cap8,he8,hg8⟩:=hh.open
               refine ⟨_,he8,?_⟩
               have HG8:=Lib.hid (HG7.out.trans hg8)
               have hk8:=hg8.blk HK7.out (by decide)
               obtain ⟨l8,hl8⟩:∃ l8,l8 = ys7 ++ tt:=⟨_,rfl⟩
               rw [← hl8] at HG8 ⊢
               have HL8:=Lib.hid hl8
               have hl8n:l8.length ≤ ys6.length + 1 + tt.length:=by (rw [hl8,List.length_append];omega)
               clear hh hg8 he8 hl8))
          all_goals
            clear f1 f2 g1 g2 z1 z2
            have m3:w8.cell? ⟨wr.heap.size,3,none⟩ = some (.bool false):=blk_cell hk8 3
            clear hk8
            go_wp2
            go_roundw
            case rel => exact ⟨j + 1,l8,q8,cap8,by omega,by go_num,rfl,by rw [HZ.out,HL8.out,HY7.out,HY6.out,HY5.out];simp,HG8.out⟩
            case measure => simp [intOf];omega
      | true =>
        by_cases hj0:j = 0
        · have g0:¬ (0:Int) < (j:Int):=by omega
          have gd1:decide ((0:Int) < (j:Int)) = false:=decide_eq_false g0
          have gd2:decide (0 < j) = false:=decide_eq_false (by omega)
          have HZ:Hid (xs ++ cjn s (j + 1) = zs ++ (nm.data.toList ++ 32 :: (tt ++ 32 :: 61 :: 32 :: dd))):=by show _ = _;rw [hnx,if_pos hj0,HZe.out];simp
          have hzz:=congrArg List.length HZ.out
          simp only [List.length_append,List.length_cons] at hzz
          rw [hns] at hzz
          have hlim:zs.length + 0 + nm.size + 1 + tt.length + 3 + dd.length ≤ 139000000000000:=by omega
          clear hnx hj0 hlx hzz hl1 hzl HLen HEnd
          have HCd:=Lib.hid (HCv.out rfl)
          go_wp2_with (first
            | (at_builtin;rw [← HWa.out];refine wp_ontoS (B:=w0.heap.size) (t:=nm) HHa.out (by omega) hBa rfl rfl rfl rfl rfl ?_;intro ys6 q6 cap6 W6 HY6 hH6 ha6 hb6
               have HG6:=Lib.hid (HGa.out.trans (Grx.of ⟨hH6,ha6,hb6⟩ HHa.out))
               have hk6:=(Grx.of ⟨hH6,ha6,hb6⟩ HHa.out).blk HBlk.out (by decide)
               clear hH6 ha6 hb6)
            | fail)
          have hy6:ys6.length ≤ zs.length + nm.size:=by rw [HY6.out,List.length_append,hns];omega
          have f1:W6.cell? ⟨wr.heap.size,1,none⟩ = some (.int .i64 kx):=blk_cell hk6 1
          have f2:W6.cell? ⟨wr.heap.size,2,none⟩ = some (.slice tp tn tc):=blk_cell hk6 2
          have HK6:=Lib.hid hk6
          have z1:∀ o,(W6.alloc o).cell? ⟨wr.heap.size,1,none⟩ = some (.int .i64 kx):=fun o => blk_cell ((blk_old W6 o (blk_lt hk6)).trans hk6) 1
          have z2:∀ o,(W6.alloc o).cell? ⟨wr.heap.size,2,none⟩ = some (.slice tp tn tc):=fun o => blk_cell ((blk_old W6 o (blk_lt hk6)).trans hk6) 2
          have hB6:w0.heap.size ≤ W6.heap.size:=Nat.le_trans hBs HG6.out.size
          have hyl6:ys6.length ≤ 139000000000000:=by omega
          have HH6:=Lib.hid HG6.out.has
          clear hk6 d0 a0 a1 a2 a3 a4 a5 a6 a7 a8 HWa HBlk
          go_region_law (first
            | (refine step_pushG (B:=w0.heap.size) (xs:=ys6) (v:=.slice q6 ys6.length cap6) (w:=W6.drew) (H:=W6.heap.size) (by rfl) HH6.out.drew 32 (by omega) hB6 (.tmp 22) (.tmp 23) (by rfl) (by rfl) (by rfl) (by rfl) (by rfl) (by rfl) ?_
               intro q7 cap7 W7 ys7 HY7 hg7
               have hgx:=Grx.of hg7.undrew HH6.out
               have HG7:=Lib.hid (HG6.out.trans hgx)
               have hk7:=hgx.blk HK6.out (by decide)
               have HK7:=Lib.hid hk7
               have g1:W7.cell? ⟨wr.heap.size,1,none⟩ = some (.int .i64 kx):=blk_cell hk7 1
               have g2:W7.cell? ⟨wr.heap.size,2,none⟩ = some (.slice tp tn tc):=blk_cell hk7 2
               have HB7:=Lib.hid (HB0.out.trans (HG7.out.below hBs))
               have hyl7:ys7.length ≤ ys6.length + 1:=by (rw [HY7.out,List.length_append,List.length_singleton];omega)
               clear hg7 hgx hk7)
            | (refine step_call2 (.tmp 24) (.tmp 26) 79 32 (by rfl) (by rfl) (by rfl) (by rfl) Tryz.func70 (by kernel_rfl) (by rfl) (HCt.out W7 (.slice q7 ys7.length cap7) ys7 HB7.out HG7.out.has (by omega)) ?_
               intro e w8 hh
               obtain ⟨q8,cap8,he8,hg8⟩:=hh.open
               refine ⟨_,he8,?_⟩
               have HG8:=Lib.hid (HG7.out.trans hg8)
               have hk8:=hg8.blk HK7.out (by decide)
               obtain ⟨l8,hl8⟩:∃ l8,l8 = ys7 ++ tt:=⟨_,rfl⟩
               rw [← hl8] at HG8 ⊢
               have HL8:=Lib.hid hl8
               have hl8n:l8.length ≤ ys6.length + 1 + tt.length:=by (rw [hl8,List.length_append];omega)
               clear hh hg8 he8 hl8))
          all_goals
            clear f1 f2 g1 g2 z1 z2
            have m3:w8.cell? ⟨wr.heap.size,3,none⟩ = some (.bool true):=blk_cell hk8 3
            have m4:w8.cell? ⟨wr.heap.size,4,none⟩ = some (.int .i64 vk):=blk_cell hk8 4
            have m5:w8.cell? ⟨wr.heap.size,5,none⟩ = some (.int .i64 vi):=blk_cell hk8 5
            have m6:w8.cell? ⟨wr.heap.size,6,none⟩ = some (.float .f64 vb):=blk_cell hk8 6
            have m7:w8.cell? ⟨wr.heap.size,7,none⟩ = some (.string vt):=blk_cell hk8 7
            have m8:w8.cell? ⟨wr.heap.size,8,none⟩ = some (.slice vp vn vc):=blk_cell hk8 8
            have HK8:=Lib.hid hk8
            have HH8:=Lib.hid HG8.out.has
            have hB8:w0.heap.size ≤ w8.heap.size:=Nat.le_trans hBs HG8.out.size
            clear hk8
            go_wp2_with fail
            go_region_law (first
              | (refine step_ontoX (B:=w0.heap.size) (xs:=l8) (t:=⟨#[32,61,32]⟩) (w:=w8.drew) (v:=.slice q8 l8.length cap8) HH8.out.drew (by rw [show (ByteArray.mk #[32,61,32]).size = 3 from rfl];omega) hB8 (.tmp 30) (.const (.string ⟨#[32,61,32]⟩)) (by rfl) (by rfl) (by rfl) (by rfl) (by rfl) ?_
                 intro q9 cap9 W9 ys9 HY9 hg9
                 have hgx9:=Grx.of hg9.undrew HH8.out
                 have HG9:=Lib.hid (HG8.out.trans hgx9)
                 have hk9:=hgx9.blk HK8.out (by decide)
                 have n4:W9.cell? ⟨wr.heap.size,4,none⟩ = some (.int .i64 vk):=blk_cell hk9 4
                 have n5:W9.cell? ⟨wr.heap.size,5,none⟩ = some (.int .i64 vi):=blk_cell hk9 5
                 have n6:W9.cell? ⟨wr.heap.size,6,none⟩ = some (.float .f64 vb):=blk_cell hk9 6
                 have n7:W9.cell? ⟨wr.heap.size,7,none⟩ = some (.string vt):=blk_cell hk9 7
                 have n8:W9.cell? ⟨wr.heap.size,8,none⟩ = some (.slice vp vn vc):=blk_cell hk9 8
                 have HB9:=Lib.hid (HB0.out.trans (HG9.out.below hBs))
                 have hyl9:ys9.length ≤ l8.length + 3:=by (rw [HY9.out,List.length_append];exact Nat.le_refl _)
                 clear hg9 hgx9 hk9)
              | (refine step_call2 (.tmp 31) (.tmp 33) 79 36 (by rfl) (by rfl) (by rfl) (by rfl) Tryz.func42 (by kernel_rfl) (by rfl) (HCd.out W9 (.slice q9 ys9.length cap9) ys9 HB9.out HG9.out.has (by omega)) ?_
                 intro e w10 hh
                 obtain ⟨q10,cap10,he10,hg10⟩:=hh.open
                 refine ⟨_,he10,?_⟩
                 have HG10:=Lib.hid (HG9.out.trans hg10)
                 obtain ⟨l10,hl10⟩:∃ l10,l10 = ys9 ++ dd:=⟨_,rfl⟩
                 rw [← hl10] at HG10 ⊢
                 have HL10:=Lib.hid hl10
                 clear hh hg10 he10 hl10))
            all_goals
              go_wp2
              go_roundw
              case rel => exact ⟨j + 1,l10,q10,cap10,by omega,by go_num,rfl,by rw [HZ.out,HL10.out,HY9.out,HL8.out,HY7.out,HY6.out];simp,HG10.out⟩
              case measure => simp [intOf];omega
        · have g0:(0:Int) < (j:Int):=by omega
          have gd1:decide ((0:Int) < (j:Int)) = true:=decide_eq_true g0
          have gd2:decide (0 < j) = true:=decide_eq_true (by omega)
          have HZ:Hid (xs ++ cjn s (j + 1) = zs ++ [44,32] ++ (nm.data.toList ++ 32 :: (tt ++ 32 :: 61 :: 32 :: dd))):=by show _ = _;rw [hnx,if_neg hj0,HZe.out];simp
          have hzz:=congrArg List.length HZ.out
          simp only [List.length_append,List.length_cons,List.length_nil] at hzz
          rw [hns] at hzz
          have hlim:zs.length + 2 + nm.size + 1 + tt.length + 3 + dd.length ≤ 139000000000000:=by omega
          clear hnx hj0 hlx hzz hl1 hzl HLen HEnd
          have HCd:=Lib.hid (HCv.out rfl)
          go_wp2_with (first
            | (at_builtin;rw [← HWa.out];refine wp_ontoS (B:=w0.heap.size) (t:=⟨#[44,32]⟩) HHa.out (by rw [show (ByteArray.mk #[44,32]).size = 2 from rfl];omega) hBa rfl rfl rfl rfl rfl ?_;intro ys5 q5 cap5 W5 HY5 hH5 ha5 hb5
               have HG5:=Lib.hid (HGa.out.trans (Grx.of ⟨hH5,ha5,hb5⟩ HHa.out))
               have hk5:=(Grx.of ⟨hH5,ha5,hb5⟩ HHa.out).blk HBlk.out (by decide)
               have HK5:=Lib.hid hk5
               have e0:W5.cell? ⟨wr.heap.size,0,none⟩ = some (.string nm):=blk_cell hk5 0
               have hB5:w0.heap.size ≤ W5.heap.size:=Nat.le_trans hBs HG5.out.size
               have hy5:ys5.length ≤ zs.length + 2:=by (rw [HY5.out,List.length_append];exact Nat.le_refl _)
               clear hH5 ha5 hb5 hk5)
            | (at_builtin;refine wp_ontoS (B:=w0.heap.size) (t:=nm) HG5.out.has (by omega) hB5 rfl rfl rfl rfl rfl ?_;intro ys6 q6 cap6 W6 HY6 hH6 ha6 hb6
               have HG6:=Lib.hid (HG5.out.trans (Grx.of ⟨hH6,ha6,hb6⟩ HG5.out.has))
               have hk6:=(Grx.of ⟨hH6,ha6,hb6⟩ HG5.out.has).blk HK5.out (by decide)
               clear hH6 ha6 hb6)
            | fail)
          have hy6:ys6.length ≤ zs.length + 2 + nm.size:=by rw [HY6.out,List.length_append,hns];omega
          clear e0
          have f1:W6.cell? ⟨wr.heap.size,1,none⟩ = some (.int .i64 kx):=blk_cell hk6 1
          have f2:W6.cell? ⟨wr.heap.size,2,none⟩ = some (.slice tp tn tc):=blk_cell hk6 2
          have HK6:=Lib.hid hk6
          have z1:∀ o,(W6.alloc o).cell? ⟨wr.heap.size,1,none⟩ = some (.int .i64 kx):=fun o => blk_cell ((blk_old W6 o (blk_lt hk6)).trans hk6) 1
          have z2:∀ o,(W6.alloc o).cell? ⟨wr.heap.size,2,none⟩ = some (.slice tp tn tc):=fun o => blk_cell ((blk_old W6 o (blk_lt hk6)).trans hk6) 2
          have hB6:w0.heap.size ≤ W6.heap.size:=Nat.le_trans hBs HG6.out.size
          have hyl6:ys6.length ≤ 139000000000000:=by omega
          have HH6:=Lib.hid HG6.out.has
          clear hk6 d0 a0 a1 a2 a3 a4 a5 a6 a7 a8 HWa HBlk
          go_region_law (first
            | (refine step_pushG (B:=w0.heap.size) (xs:=ys6) (v:=.slice q6 ys6.length cap6) (w:=W6.drew) (H:=W6.heap.size) (by rfl) HH6.out.drew 32 (by omega) hB6 (.tmp 22) (.tmp 23) (by rfl) (by rfl) (by rfl) (by rfl) (by rfl) (by rfl) ?_
               intro q7 cap7 W7 ys7 HY7 hg7
               have hgx:=Grx.of hg7.undrew HH6.out
               have HG7:=Lib.hid (HG6.out.trans hgx)
               have hk7:=hgx.blk HK6.out (by decide)
               have HK7:=Lib.hid hk7
               have g1:W7.cell? ⟨wr.heap.size,1,none⟩ = some (.int .i64 kx):=blk_cell hk7 1
               have g2:W7.cell? ⟨wr.heap.size,2,none⟩ = some (.slice tp tn tc):=blk_cell hk7 2
               have HB7:=Lib.hid (HB0.out.trans (HG7.out.below hBs))
               have hyl7:ys7.length ≤ ys6.length + 1:=by (rw [HY7.out,List.length_append,List.length_singleton];omega)
               clear hg7 hgx hk7)
            | (refine step_call2 (.tmp 24) (.tmp 26) 79 32 (by rfl) (by rfl) (by rfl) (by rfl) Tryz.func70 (by kernel_rfl) (by rfl) (HCt.out W7 (.slice q7 ys7.length cap7) ys7 HB7.out HG7.out.has (by omega)) ?_
               intro e w8 hh
               obtain ⟨q8,cap8,he8,hg8⟩:=hh.open
               refine ⟨_,he8,?_⟩
               have HG8:=Lib.hid (HG7.out.trans hg8)
               have hk8:=hg8.blk HK7.out (by decide)
               obtain ⟨l8,hl8⟩:∃ l8,l8 = ys7 ++ tt:=⟨_,rfl⟩
               rw [← hl8] at HG8 ⊢
               have HL8:=Lib.hid hl8
               have hl8n:l8.length ≤ ys6.length + 1 + tt.length:=by (rw [hl8,List.length_append];omega)
               clear hh hg8 he8 hl8))
          all_goals
            clear f1 f2 g1 g2 z1 z2
            have m3:w8.cell? ⟨wr.heap.size,3,none⟩ = some (.bool true):=blk_cell hk8 3
            have m4:w8.cell? ⟨wr.heap.size,4,none⟩ = some (.int .i64 vk):=blk_cell hk8 4
            have m5:w8.cell? ⟨wr.heap.size,5,none⟩ = some (.int .i64 vi):=blk_cell hk8 5
            have m6:w8.cell? ⟨wr.heap.size,6,none⟩ = some (.float .f64 vb):=blk_cell hk8 6
            have m7:w8.cell? ⟨wr.heap.size,7,none⟩ = some (.string vt):=blk_cell hk8 7
            have m8:w8.cell? ⟨wr.heap.size,8,none⟩ = some (.slice vp vn vc):=blk_cell hk8 8
            have HK8:=Lib.hid hk8
            have HH8:=Lib.hid HG8.out.has
            have hB8:w0.heap.size ≤ w8.heap.size:=Nat.le_trans hBs HG8.out.size
            clear hk8
            go_wp2_with fail
            go_region_law (first
              | (refine step_ontoX (B:=w0.heap.size) (xs:=l8) (t:=⟨#[32,61,32]⟩) (w:=w8.drew) (v:=.slice q8 l8.length cap8) HH8.out.drew (by rw [show (ByteArray.mk #[32,61,32]).size = 3 from rfl];omega) hB8 (.tmp 30) (.const (.string ⟨#[32,61,32]⟩)) (by rfl) (by rfl) (by rfl) (by rfl) (by rfl) ?_
                 intro q9 cap9 W9 ys9 HY9 hg9
                 have hgx9:=Grx.of hg9.undrew HH8.out
                 have HG9:=Lib.hid (HG8.out.trans hgx9)
                 have hk9:=hgx9.blk HK8.out (by decide)
                 have n4:W9.cell? ⟨wr.heap.size,4,none⟩ = some (.int .i64 vk):=blk_cell hk9 4
                 have n5:W9.cell? ⟨wr.heap.size,5,none⟩ = some (.int .i64 vi):=blk_cell hk9 5
                 have n6:W9.cell? ⟨wr.heap.size,6,none⟩ = some (.float .f64 vb):=blk_cell hk9 6
                 have n7:W9.cell? ⟨wr.heap.size,7,none⟩ = some (.string vt):=blk_cell hk9 7
                 have n8:W9.cell? ⟨wr.heap.size,8,none⟩ = some (.slice vp vn vc):=blk_cell hk9 8
                 have HB9:=Lib.hid (HB0.out.trans (HG9.out.below hBs))
                 have hyl9:ys9.length ≤ l8.length + 3:=by (rw [HY9.out,List.length_append];exact Nat.le_refl _)
                 clear hg9 hgx9 hk9)
              | (refine step_call2 (.tmp 31) (.tmp 33) 79 36 (by rfl) (by rfl) (by rfl) (by rfl) Tryz.func42 (by kernel_rfl) (by rfl) (HCd.out W9 (.slice q9 ys9.length cap9) ys9 HB9.out HG9.out.has (by omega)) ?_
                 intro e w10 hh
                 obtain ⟨q10,cap10,he10,hg10⟩:=hh.open
                 refine ⟨_,he10,?_⟩
                 have HG10:=Lib.hid (HG9.out.trans hg10)
                 obtain ⟨l10,hl10⟩:∃ l10,l10 = ys9 ++ dd:=⟨_,rfl⟩
                 rw [← hl10] at HG10 ⊢
                 have HL10:=Lib.hid hl10
                 clear hh hg10 he10 hl10))
            all_goals
              go_wp2
              go_roundw
              case rel => exact ⟨j + 1,l10,q10,cap10,by omega,by go_num,rfl,by rw [HZ.out,HL10.out,HY9.out,HL8.out,HY7.out,HY6.out,HY5.out];simp,HG10.out⟩
              case measure => simp [intOf];omega
    · have hjn:¬ (j:Int) < (n:Int):=by omega
      have HE:Hid (L = zs):=by
        show _ = _
        rw [HL.out.1];exact (HEnd.out j (by omega)).symm
      have HG:=Lib.hid HL.out.2
      clear HL hbr
      go_wp2
      go_ret
      rw [HE.out]
      exact ⟨q,cap,rfl,HG.out⟩
end Go.Proofs.YtllbniljgcgbeaaGreatDoor
namespace Go.Proofs.YtllbniljgcgbeaaGreatDoor
open Go.RowKit
attribute [local go_sem] run_store_float
def PrnR (w:World) (er:Nat) (T:Tx.Bs) (e:Ending) (w':World):Prop:=e = .returned (.tuple #[.string ⟨(if er = 0 then T else []).toArray⟩,.int .i64 (er:Nat)]) ∧ Below w.heap.size w w'
theorem PrnR.open {w w':World} {er:Nat} {T:Tx.Bs} {e:Ending} (h:PrnR w er T e w'):e = .returned (.tuple #[.string ⟨(if er = 0 then T else []).toArray⟩,.int .i64 (er:Nat)]) ∧ Below w.heap.size w w':=h
theorem sch_short {s:List Col} (h:Sch.err s = 0) (hw:∀ x ∈ s,x.wf):(Tx.sch text s).length ≤ 138000000000000:=by
 obtain ⟨-,h16,hce,-⟩:=Sch.err_open h
 have hj:=join_le 135000000100 (s.map (Tx.col text)) (fun y hy => by
  obtain ⟨z,hz,rfl⟩:=List.mem_map.1 hy
  obtain ⟨l',hl'⟩:=Sch.colsErr_mem s [] hce z hz
  obtain ⟨hnm,-,hty,-,hdf2⟩:=Sch.col_open hl'
  obtain ⟨wn,wty,wd⟩:=hw z hz
  have h1:=ty_len z.ty 1 hty
  have h0:=(Sch.name_size hnm).2
  have hns:z.name.data.toList.length = z.name.size:=by rw [Array.length_toList];rfl
  unfold Tx.col
  simp only [List.length_append,List.length_cons]
  by_cases hh:z.has = true
  ·have h2:=val_short (tx:=text) text_len (hdf2 hh).1 (Nat.le_refl _) wd
   rw [if_pos hh]
   simp only [List.length_cons]
   omega
  ·rw [if_neg hh]
   simp only [List.length_nil]
   omega)
 rw [List.length_map] at hj
 have h8:s.length * (135000000100 + 2) ≤ 16 * (135000000100 + 2):=Nat.mul_le_mul_right _ h16
 unfold Tx.sch
 omega
theorem printSchemaY (p:Option Addr) (n c:Nat) (er:Nat) (T:Tx.Bs) (w:World) (hv0:Hv w) (HCk:Hid (∀ w',Below w.heap.size w w' → Calls Tryz.prog 22 #[.agg #[.slice p n c]] w' fun e w'' => e = .returned (.int .i64 (er:Nat)) ∧ Below w'.heap.size w' w'')) (HAp:Hid (er = 0 → ∀ w',Below w.heap.size w w' → Hv w' → Calls Tryz.prog 41 #[.slice none 0 0,.slice p n c] w' (GrxV w' w'.heap.size T))) :
  Calls Tryz.prog 16 #[.agg #[.slice p n c]] w (PrnR w er T):=by
 obtain ⟨W0,hW0⟩:∃ W0,W0 = w.alloc (.cells #[.slice p n c] 25):=⟨_,rfl⟩
 have hbW:Below w.heap.size w W0:=by rw [hW0];exact (Below.refl _ _).alloc (Nat.le_refl _) _
 have hblk:W0.heap[w.heap.size]? = some (.cells #[.slice p n c] 25 (0,0)):=by rw [hW0];exact blk_new w _
 have HC1:=Lib.hid (HCk.out W0 hbW)
 have HB0:=Lib.hid hbW
 have HW0:=Lib.hid hW0
 have HBk:=Lib.hid hblk
 have HHv:=Lib.hid (hv0.on hbW hv0.size)
 have hs7:7 ≤ W0.heap.size:=Nat.le_trans hv0.size hbW.size
 have c0:W0.cell? ⟨w.heap.size,0,none⟩ = some (.slice p n c):=blk_cell hblk 0
 clear hW0 hbW hblk HCk
 go_enter Tryz.func16,Tryz.ntmps16
 go_wp2_with fail
 rw [← HW0.out]
 refine HC1.out.mono ?_
 rintro e w1 ⟨rfl,hb1⟩
 have HB1:=Lib.hid (HB0.out.trans (hb1.mono HB0.out.size))
 have hk1:=blk_on HBk.out hb1 (blk_lt HBk.out)
 have HV1:=Lib.hid (HHv.out.on hb1 hs7)
 clear hb1 HC1 HBk HHv
 clear c0
 have d0:w1.cell? ⟨w.heap.size,0,none⟩ = some (.slice p n c):=blk_cell hk1 0
 clear hk1
 by_cases h0:er = 0
 ·have g0:((er:Int) != 0) = false:=bne_f (by omega)
  have HA:=Lib.hid (HAp.out h0 w1 HB1.out HV1.out)
  have HE:Hid ((if er = 0 then T else []) = T):=by show _ = _;rw [if_pos h0]
  have HZ:=Lib.hid h0
  clear h0 HAp
  go_wp2_with fail
  refine HA.out.mono ?_
  intro e w2 hh
  obtain ⟨q,cap,he,hg⟩:=hh.open
  subst he
  obtain ⟨p5,cap5,he5,hat5,-⟩:=hg.has.at
  injection he5 with he6 he7 he8
  have hcv:=conv_str hat5 cap
  rw [← he6] at hcv
  have HB2:=Lib.hid (HB1.out.trans ((hg.below (Nat.le_refl _)).mono HB1.out.size))
  clear hh hg HA he6 he7 he8 hat5
  go_wp2
  go_ret2
  refine ⟨?_,HB2.out⟩
  rw [HE.out,HZ.out]
  rfl
 ·have g0:((er:Int) != 0) = true:=bne_t (by omega)
  have HE:Hid ((if er = 0 then T else []) = []):=by show _ = _;rw [if_neg h0]
  clear h0 HAp
  go_wp2
  go_ret2
  refine ⟨?_,HB1.out⟩
  rw [HE.out]
  rfl
theorem printValueY (k i:Int) (b:Nat) (t:ByteArray) (p:Option Addr) (n c:Nat) (er:Nat) (T:Tx.Bs) (w:World) (hv0:Hv w) (HCk:Hid (∀ w',Below w.heap.size w w' → Calls Tryz.prog 34 #[.agg #[.int .i64 k,.int .i64 i,.float .f64 b,.string t,.slice p n c]] w' fun e w'' => e = .returned (.int .i64 (er:Nat)) ∧ Below w'.heap.size w' w'')) (HAp:Hid (er = 0 → ∀ w',Below w.heap.size w w' → Hv w' → Calls Tryz.prog 42 #[.slice none 0 0,.agg #[.int .i64 k,.int .i64 i,.float .f64 b,.string t,.slice p n c]] w' (GrxV w' w'.heap.size T))) :
  Calls Tryz.prog 17 #[.agg #[.int .i64 k,.int .i64 i,.float .f64 b,.string t,.slice p n c]] w (PrnR w er T):=by
 obtain ⟨W0,hW0⟩:∃ W0,W0 = w.alloc (.cells #[.int .i64 k,.int .i64 i,.float .f64 b,.string t,.slice p n c] 36):=⟨_,rfl⟩
 have hbW:Below w.heap.size w W0:=by rw [hW0];exact (Below.refl _ _).alloc (Nat.le_refl _) _
 have hblk:W0.heap[w.heap.size]? = some (.cells #[.int .i64 k,.int .i64 i,.float .f64 b,.string t,.slice p n c] 36 (0,0)):=by rw [hW0];exact blk_new w _
 have HC1:=Lib.hid (HCk.out W0 hbW)
 have HB0:=Lib.hid hbW
 have HW0:=Lib.hid hW0
 have HBk:=Lib.hid hblk
 have HHv:=Lib.hid (hv0.on hbW hv0.size)
 have hs7:7 ≤ W0.heap.size:=Nat.le_trans hv0.size hbW.size
 have c0:W0.cell? ⟨w.heap.size,0,none⟩ = some (.int .i64 k):=blk_cell hblk 0
 have c1:W0.cell? ⟨w.heap.size,1,none⟩ = some (.int .i64 i):=blk_cell hblk 1
 have c2:W0.cell? ⟨w.heap.size,2,none⟩ = some (.float .f64 b):=blk_cell hblk 2
 have c3:W0.cell? ⟨w.heap.size,3,none⟩ = some (.string t):=blk_cell hblk 3
 have c4:W0.cell? ⟨w.heap.size,4,none⟩ = some (.slice p n c):=blk_cell hblk 4
 clear hW0 hbW hblk HCk
 go_enter Tryz.func17,Tryz.ntmps17
 go_wp2_with fail
 rw [← HW0.out]
 refine HC1.out.mono ?_
 rintro e w1 ⟨rfl,hb1⟩
 have HB1:=Lib.hid (HB0.out.trans (hb1.mono HB0.out.size))
 have hk1:=blk_on HBk.out hb1 (blk_lt HBk.out)
 have HV1:=Lib.hid (HHv.out.on hb1 hs7)
 clear hb1 HC1 HBk HHv
 clear c0
 clear c1
 clear c2
 clear c3
 clear c4
 have d0:w1.cell? ⟨w.heap.size,0,none⟩ = some (.int .i64 k):=blk_cell hk1 0
 have d1:w1.cell? ⟨w.heap.size,1,none⟩ = some (.int .i64 i):=blk_cell hk1 1
 have d2:w1.cell? ⟨w.heap.size,2,none⟩ = some (.float .f64 b):=blk_cell hk1 2
 have d3:w1.cell? ⟨w.heap.size,3,none⟩ = some (.string t):=blk_cell hk1 3
 have d4:w1.cell? ⟨w.heap.size,4,none⟩ = some (.slice p n c):=blk_cell hk1 4
 clear hk1
 by_cases h0:er = 0
 ·have g0:((er:Int) != 0) = false:=bne_f (by omega)
  have HA:=Lib.hid (HAp.out h0 w1 HB1.out HV1.out)
  have HE:Hid ((if er = 0 then T else []) = T):=by show _ = _;rw [if_pos h0]
  have HZ:=Lib.hid h0
  clear h0 HAp
  go_wp2_with fail
  refine HA.out.mono ?_
  intro e w2 hh
  obtain ⟨q,cap,he,hg⟩:=hh.open
  subst he
  obtain ⟨p5,cap5,he5,hat5,-⟩:=hg.has.at
  injection he5 with he6 he7 he8
  have hcv:=conv_str hat5 cap
  rw [← he6] at hcv
  have HB2:=Lib.hid (HB1.out.trans ((hg.below (Nat.le_refl _)).mono HB1.out.size))
  clear hh hg HA he6 he7 he8 hat5
  go_wp2
  go_ret2
  refine ⟨?_,HB2.out⟩
  rw [HE.out,HZ.out]
  rfl
 ·have g0:((er:Int) != 0) = true:=bne_t (by omega)
  have HE:Hid ((if er = 0 then T else []) = []):=by show _ = _;rw [if_neg h0]
  clear h0 HAp
  go_wp2
  go_ret2
  refine ⟨?_,HB1.out⟩
  rw [HE.out]
  rfl
theorem printRowY (p:Option Addr) (n c:Nat) (er:Nat) (T:Tx.Bs) (w:World) (hv0:Hv w) (HCk:Hid (∀ w',Below w.heap.size w w' → Calls Tryz.prog 40 #[.agg #[.slice p n c]] w' fun e w'' => e = .returned (.int .i64 (er:Nat)) ∧ Below w'.heap.size w' w'')) (HAp:Hid (er = 0 → ∀ w',Below w.heap.size w w' → Hv w' → Calls Tryz.prog 46 #[.slice none 0 0,.slice p n c] w' (GrxV w' w'.heap.size T))) :
  Calls Tryz.prog 19 #[.agg #[.slice p n c]] w (PrnR w er T):=by
 obtain ⟨W0,hW0⟩:∃ W0,W0 = w.alloc (.cells #[.slice p n c] 44):=⟨_,rfl⟩
 have hbW:Below w.heap.size w W0:=by rw [hW0];exact (Below.refl _ _).alloc (Nat.le_refl _) _
 have hblk:W0.heap[w.heap.size]? = some (.cells #[.slice p n c] 44 (0,0)):=by rw [hW0];exact blk_new w _
 have HC1:=Lib.hid (HCk.out W0 hbW)
 have HB0:=Lib.hid hbW
 have HW0:=Lib.hid hW0
 have HBk:=Lib.hid hblk
 have HHv:=Lib.hid (hv0.on hbW hv0.size)
 have hs7:7 ≤ W0.heap.size:=Nat.le_trans hv0.size hbW.size
 have c0:W0.cell? ⟨w.heap.size,0,none⟩ = some (.slice p n c):=blk_cell hblk 0
 clear hW0 hbW hblk HCk
 go_enter Tryz.func19,Tryz.ntmps19
 go_wp2_with fail
 rw [← HW0.out]
 refine HC1.out.mono ?_
 rintro e w1 ⟨rfl,hb1⟩
 have HB1:=Lib.hid (HB0.out.trans (hb1.mono HB0.out.size))
 have hk1:=blk_on HBk.out hb1 (blk_lt HBk.out)
 have HV1:=Lib.hid (HHv.out.on hb1 hs7)
 clear hb1 HC1 HBk HHv
 clear c0
 have d0:w1.cell? ⟨w.heap.size,0,none⟩ = some (.slice p n c):=blk_cell hk1 0
 clear hk1
 by_cases h0:er = 0
 ·have g0:((er:Int) != 0) = false:=bne_f (by omega)
  have HA:=Lib.hid (HAp.out h0 w1 HB1.out HV1.out)
  have HE:Hid ((if er = 0 then T else []) = T):=by show _ = _;rw [if_pos h0]
  have HZ:=Lib.hid h0
  clear h0 HAp
  go_wp2_with fail
  refine HA.out.mono ?_
  intro e w2 hh
  obtain ⟨q,cap,he,hg⟩:=hh.open
  subst he
  obtain ⟨p5,cap5,he5,hat5,-⟩:=hg.has.at
  injection he5 with he6 he7 he8
  have hcv:=conv_str hat5 cap
  rw [← he6] at hcv
  have HB2:=Lib.hid (HB1.out.trans ((hg.below (Nat.le_refl _)).mono HB1.out.size))
  clear hh hg HA he6 he7 he8 hat5
  go_wp2
  go_ret2
  refine ⟨?_,HB2.out⟩
  rw [HE.out,HZ.out]
  rfl
 ·have g0:((er:Int) != 0) = true:=bne_t (by omega)
  have HE:Hid ((if er = 0 then T else []) = []):=by show _ = _;rw [if_neg h0]
  clear h0 HAp
  go_wp2
  go_ret2
  refine ⟨?_,HB1.out⟩
  rw [HE.out]
  rfl
theorem PrintSchemaX (s:List Col) (p:Option Addr) (c:Nat) (w:World) (hv:Hv w) (hs:s.length * 120 ≤ 140737488351232) (hx:Cols w p s) (hwf:∀ x ∈ s,x.wf):Calls Tryz.prog 16 #[.agg #[.slice p s.length c]] w (PrnR w (Sch.err s) (Tx.sch text s)):=by
 refine printSchemaY p s.length c _ _ w hv (fun w' hb => checkSK s p c w' hs (hx.on hb) hwf) (fun h0 w' hb hv' => ?_)
 have hsh:=sch_short h0 hwf
 obtain ⟨-,h16,hce,-⟩:=Sch.err_open h0
 have hall:∀ x ∈ s,Ty.check 1 x.ty = 0 ∧ (x.has = true → chk 1 x.dflt = 0):=fun x hx => by
  obtain ⟨l',hl'⟩:=Sch.colsErr_mem s [] hce x hx
  obtain ⟨-,-,hty,-,hdf2⟩:=Sch.col_open hl'
  exact ⟨hty,fun hh => (hdf2 hh).1⟩
 exact appendColumnsX s h16 (fun x hx => (hall x hx).1) (fun x hx hh => appendValueX x.dflt 1 (Nat.le_refl _) ((hall x hx).2 hh) (hwf x hx).2.2) p c w' w' hv' (hx.on hb) (Below.refl _ _) (.slice none 0 0) [] (has_nil _ _) (by simp only [List.length_nil];omega)
theorem PrintValueX (x:V) (w:World) (u:Array Value) (hv:Hv w) (hx:VLies w u x) (hw:x.wf):Calls Tryz.prog 17 #[.agg u] w (PrnR w (chk 1 x) (Tx.val text x)):=by
 obtain ⟨k,i,b,t,xs⟩:=x
 obtain ⟨p,c,rfl,-⟩:=hx.open
 refine printValueY k i b t p xs.length c _ _ w hv (fun w' hb => checkK _ w' _ (hx.on hb)) (fun h0 w' hb hv' => ?_)
 have hsh:=val_short (tx:=text) text_len h0 (Nat.le_refl _) hw
 exact appendValueX (.mk k i b t xs) 1 (Nat.le_refl _) h0 hw w' w' _ (.slice none 0 0) [] hv' (hx.on hb) (Below.refl _ _) (has_nil _ _) (by simp only [List.length_nil];omega)
theorem rowErr_all:∀ (xs:List V),rowErr xs = 0 → ∀ x ∈ xs,chk 1 x = 0
 | [],_,x,hx => by cases hx
 | y :: l,h,x,hx => by
  unfold rowErr at h
  by_cases h1:chk 1 y = 0
  ·rw [if_pos h1] at h
   rcases List.mem_cons.1 hx with rfl | hx
   ·exact h1
   ·exact rowErr_all l h x hx
  ·rw [if_neg h1] at h;exact absurd h h1
theorem PrintRowX (xs:List V) (p:Option Addr) (c:Nat) (w:World) (hv:Hv w) (hl:xs.length * 64 ≤ 140737488351232) (hx:Items w p xs) (hwf:∀ x ∈ xs,x.wf) (hlen:rowErr xs = 0 → (Tx.row text xs).length ≤ 139000000000000):Calls Tryz.prog 19 #[.agg #[.slice p xs.length c]] w (PrnR w (rowErr xs) (Tx.row text xs)):=by
 refine printRowY p xs.length c _ _ w hv (fun w' hb => checkRowX xs p c w' (hx.on hb) hl) (fun h0 w' hb hv' => ?_)
 have hl2:=hlen h0
 unfold Tx.row at hl2
 exact appendValuesX xs (by omega) (fun x hx => appendValueX x 1 (Nat.le_refl _) (rowErr_all xs h0 x hx) (hwf x hx)) p c w' w' hv' (hx.on hb) (Below.refl _ _) (.slice none 0 0) [] (has_nil _ _) (by simp only [List.length_nil];omega)
end Go.Proofs.YtllbniljgcgbeaaGreatDoor
