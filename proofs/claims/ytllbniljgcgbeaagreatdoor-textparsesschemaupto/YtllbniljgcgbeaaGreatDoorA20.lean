import Derived.Test.YtllbniljgcgbeaaGreatDoorA14
import Derived.Test.YtllbniljgcgbeaaGreatDoorA17
set_option maxRecDepth 100000
set_option maxHeartbeats 8000000
namespace Go.Proofs.YtllbniljgcgbeaaGreatDoor
section
open Go.RowKit
attribute [local go_sem] ah
def cjn(s:List Col)(j:Nat):Tx.Bs:=Tx.join ((s.take j).map (Tx.col text))
theorem pY(s:List Col)(j:Nat)(h:j<s.length):cjn s (j+1)=cjn s j++((if j=0 then [] else [44,32])++Tx.col text s[j]):=by
 unfold cjn
 rw[List.take_succ_eq_append_getElem h,List.map_append]
 by_cases hj:j=0
 ·subst hj
  simp[Tx.join]
 ·rw[List.map_cons,List.map_nil,fq _ _ (fun hc=>by have:=congrArg List.length hc;rw[List.length_map,List.length_take] at this;simp only[List.length_nil] at this;omega),if_neg hj]
  simp
theorem rq(s:List Col)(j:Nat)(h:s.length<=j):cjn s j=Tx.sch text s:=by unfold cjn Tx.sch;rw[List.take_of_length_le h]
theorem rp(s:List Col)(j:Nat):(cjn s j).length<=(Tx.sch text s).length:=by
 have:=fp (s.map (Tx.col text)) j
 unfold cjn Tx.sch
 rw[List.map_take]
 exact this
theorem hJ(s:List Col)(hn:s.length<=16)(hty:∀x∈s,Ty.check 1 x.ty=0)(hdf:∀x∈s,x.has=true->qi x.dflt)(p:OA)(c:Nat)(w0 w:World)(hv0:Hv w0)(hx:bA w0 p s)(hb0:Below w0.1.size w0 w)(v:Value)(xs:L8)(hv:Has w w0.1.size v xs)(hlen:xs.length+(Tx.sch text s).length<=139000000000000):
    Calls Tryz.prog 41 #[v,.slice p s.length c] w (bG w w0.1.size (xs++Tx.sch text s)):=by
  have hBs:=hb0.size
  obtain⟨q4,cap4,rfl,-,-⟩:=hv.at
  have HV:=tQ hv
  have HB0:=tQ hb0
  have HX:=tQ hx
  have HTy:=tQ hty
  have HDf:=tQ hdf
  have HH0:=tQ hv0
  obtain⟨n,hnn⟩:∃n,n=s.length:=⟨_,rfl⟩
  have HN:=tQ hnn
  rw[<-hnn] at hn ⊢
  have hnI:(n:Int)<=16:=by omega
  have HLen:Hid (∀j,xs.length+(cjn s j).length<=139000000000000):=fun j=>by have:=rp s j;omega
  have HEnd:Hid (∀j,n<=j->xs++cjn s j=xs++Tx.sch text s):=fun j hj=>by rw[rq s j (by omega)]
  obtain⟨L,hL⟩:∃L,L=xs++Tx.sch text s:=⟨_,rfl⟩
  rw[<-hL] at HEnd ⊢
  have HZ0:Hid (xs=xs++cjn s 0):=by show _=_;simp[cjn,Tx.join]
  clear hv hb0 hx hty hdf hv0 hnn hlen hL
  go_enter Tryz.func41,Tryz.ntmps41
  go_wp2_with fail
  go_loopw [0,9] (fun v0 v9 wr=>∃(j:Nat) (zs:L8) (q:OA) (cap:Nat),j<=n∧v9=.int .i64 j∧v0=.slice q zs.length cap∧Hid (zs=xs++cjn s j∧Grx w w0.1.size wr (.slice q zs.length cap) zs)) (fun _ v9 _=>n-(intOf v9).toNat)
  case atStart=>exact⟨0,xs,q4,cap4,by omega,rfl,rfl,HZ0.out,Grx.refl HV.out⟩
  case round=>
    obtain⟨j,zs,q,cap,hj,rfl,rfl,HL⟩:=hrel
    have hbr:Below w0.1.size w0 wr:=HB0.out.trans (HL.out.2.below hBs)
    by_cases hlt:j<n
    · have hltT:j<s.length:=by have:=HN.out;omega
      obtain⟨ux,hcx,hix⟩:=HX.out j hltT
      obtain⟨bx,ox,kx,tp,tn,tc,vk,vi,vb,vt,vp,vn,vc,rfl,hbx,h9,htl,hvl⟩:=HX.out.at j hltT
      clear hcx hix ux
      unfold al at htl
      unfold cells5 at hvl
      have h9:=h9.on hbr
      obtain⟨a0,a1,a2,a3,a4,a5,a6,a7,a8⟩:=h9
      have hj1:(j:Int)<(n:Int):=by omega
      have hl1:=HLen.out (j+1)
      have hnx:=pY s j hltT
      have hck:=HTy.out _ (List.getElem_mem hltT)
      have hdv:=HDf.out _ (List.getElem_mem hltT)
      obtain⟨xc,hxc⟩:∃xc,xc=s[j]'hltT:=⟨_,rfl⟩
      rw[<-hxc] at hnx hck hdv htl hvl a0 a3
      obtain⟨nm,ty,has,df⟩:=xc
      dsimp only at hck hdv htl hvl a0 a3
      have hcol:Tx.col text ⟨nm,ty,has,df⟩=nm.data.toList++32::(Tx.ty ty++(if has then 32::61::32::Tx.val text df else [])):=rfl
      rw[hcol] at hnx
      have HCt:Hid (∀w' v' l,Below w0.1.size w0 w'->Has w' w0.1.size v' l->l.length<=140000000000000->Calls Tryz.prog 70 #[v',.agg #[.int .i64 kx,.slice tp tn tc]] w' (bG w' w0.1.size (l++Tx.ty ty))):=fun w' v' l h1 h2 h3=>k9 ty 1 w0 w' _ v' l hck HH0.out htl h1 h2 (by omega)
      have HCv:Hid (has=true->∀w' v' l,Below w0.1.size w0 w'->Has w' w0.1.size v' l->l.length+(Tx.val text df).length<=140000000000000->Calls Tryz.prog 42 #[v',.agg #[.int .i64 vk,.int .i64 vi,.float .f64 vb,.string vt,.slice vp vn vc]] w' (bG w' w0.1.size (l++Tx.val text df))):=fun hh w' v' l h1 h2 h3=>hdv hh w0 w' _ v' l HH0.out hvl h1 h2 h3
      obtain⟨tt,htt⟩:∃tt,tt=Tx.ty ty:=⟨_,rfl⟩
      obtain⟨dd,hdd⟩:∃dd,dd=Tx.val text df:=⟨_,rfl⟩
      rw[<-htt] at HCt hnx
      rw[<-hdd] at HCv hnx
      have hzl:zs.length=xs.length+(cjn s j).length:=by rw[HL.out.1,List.length_append]
      have HZe:Hid (zs=xs++cjn s j):=HL.out.1
      have hns:nm.data.toList.length=nm.size:=by rw[Array.length_toList];rfl
      obtain⟨wa,hwa⟩:∃wa,wa=wr.alloc (.cells #[.string nm,.int .i64 kx,.slice tp tn tc,.bool has,.int .i64 vk,.int .i64 vi,.float .f64 vb,.string vt,.slice vp vn vc] 38):=⟨_,rfl⟩
      have hba:Below wr.1.size wr wa:=by rw[hwa];exact tY
      have hblk:wa.1[wr.1.size]?=some (.cells #[.string nm,.int .i64 kx,.slice tp tn tc,.bool has,.int .i64 vk,.int .i64 vi,.float .f64 vb,.string vt,.slice vp vn vc] 38 (0,0)):=by rw[hwa];exact aj wr _
      have HBlk:=tQ hblk
      have HHa:=tQ (HL.out.2.has.on hba)
      have HGa:=tQ (HL.out.2.on hba)
      have hBa:w0.1.size<=wa.1.size:=Nat.le_trans hbr.size hba.size
      have HWa:=tQ hwa
      have d0:wa.cell? ⟨wr.1.size,0,none⟩=some (.string nm):=ab hblk 0
      clear hck hdv htl hvl hcol hxc htt hdd hwa hba hbr HL hbx hblk HX HTy HDf
      have hlx:=congrArg List.length hnx
      simp only[List.length_append] at hlx
      cases has with
      |false=>
        by_cases hj0:j=0
        · have g0:¬(0:Int)<(j:Int):=by omega
          have gd1:decide ((0:Int)<(j:Int))=false:=decide_eq_false g0
          have gd2:decide (0<j)=false:=decide_eq_false (by omega)
          have HZ:Hid (xs++cjn s (j+1)=zs++(nm.data.toList++32::(tt++[]))):=by show _=_;rw[hnx,if_pos hj0,HZe.out];simp
          have hzz:=congrArg List.length HZ.out
          simp only[List.length_append,List.length_cons,List.length_nil] at hzz
          rw[hns] at hzz
          have hlim:zs.length+0+nm.size+1+tt.length<=139000000000000:=by omega
          clear hnx hj0 hlx hzz hl1 hzl HLen HEnd
          clear HCv
          go_wp2_with (first
            | (at_builtin;rw[<-HWa.out];refine aI (B:=w0.1.size) (t:=nm) HHa.out (by omega) hBa rfl rfl rfl rfl rfl ?_;intro ys6 q6 cap6 W6 HY6 hH6 ha6 hb6
               have HG6:=tQ (HGa.out.trans (Grx.of ⟨hH6,ha6,hb6⟩ HHa.out))
               have hk6:=(Grx.of ⟨hH6,ha6,hb6⟩ HHa.out).blk HBlk.out (by decide)
               clear hH6 ha6 hb6)
            |fail)
          have hy6:ys6.length<=zs.length+nm.size:=by rw[HY6.out,List.length_append,hns];omega
          have f1:W6.cell? ⟨wr.1.size,1,none⟩=some (.int .i64 kx):=ab hk6 1
          have f2:W6.cell? ⟨wr.1.size,2,none⟩=some (.slice tp tn tc):=ab hk6 2
          have HK6:=tQ hk6
          have z1:∀o,(W6.alloc o).cell? ⟨wr.1.size,1,none⟩=some (.int .i64 kx):=fun o=>ab ((ao W6 o (ae hk6)).trans hk6) 1
          have z2:∀o,(W6.alloc o).cell? ⟨wr.1.size,2,none⟩=some (.slice tp tn tc):=fun o=>ab ((ao W6 o (ae hk6)).trans hk6) 2
          have hB6:w0.1.size<=W6.1.size:=Nat.le_trans hBs HG6.out.size
          have hyl6:ys6.length<=139000000000000:=by omega
          have HH6:=tQ HG6.out.has
          clear hk6 d0 a0 a1 a2 a3 a4 a5 a6 a7 a8 HWa HBlk
          go_region_law (first
            | (refine bf (B:=w0.1.size) (xs:=ys6) (v:=.slice q6 ys6.length cap6) (w:=W6.drew) (H:=W6.1.size) (by rfl) HH6.out.drew 32 (by omega) hB6 (.tmp 22) (.tmp 23) (by rfl) (by rfl) (by rfl) (by rfl) (by rfl) (by rfl) ?_
               intro q7 cap7 W7 ys7 HY7 hg7
               have hgx:=Grx.of hg7.undrew HH6.out
               have HG7:=tQ (HG6.out.trans hgx)
               have hk7:=hgx.blk HK6.out (by decide)
               have HK7:=tQ hk7
               have g1:W7.cell? ⟨wr.1.size,1,none⟩=some (.int .i64 kx):=ab hk7 1
               have g2:W7.cell? ⟨wr.1.size,2,none⟩=some (.slice tp tn tc):=ab hk7 2
               have HB7:=tQ (HB0.out.trans (HG7.out.below hBs))
               have hyl7:ys7.length<=ys6.length+1:=by(rw[HY7.out,List.length_append,List.length_singleton];omega)
               clear hg7 hgx hk7)
            | (refine aZ (.tmp 24) (.tmp 26) 79 32 (by rfl) (by rfl) (by rfl) (by rfl) Tryz.func70 (by kernel_rfl) (by rfl) (HCt.out W7 (.slice q7 ys7.length cap7) ys7 HB7.out HG7.out.has (by omega)) ?_
               intro e w8 hh
               obtain⟨q8,cap8,he8,hg8⟩:=hh.open
               refine⟨_,he8,?_⟩
               have HG8:=tQ (HG7.out.trans hg8)
               have hk8:=hg8.blk HK7.out (by decide)
               obtain⟨l8,hl8⟩:∃l8,l8=ys7++tt:=⟨_,rfl⟩
               rw[<-hl8] at HG8 ⊢
               have HL8:=tQ hl8
               have hl8n:l8.length<=ys6.length+1+tt.length:=by(rw[hl8,List.length_append];omega)
               clear hh hg8 he8 hl8))
          all_goals
            clear f1 f2 g1 g2 z1 z2
            have m3:w8.cell? ⟨wr.1.size,3,none⟩=some (.bool false):=ab hk8 3
            clear hk8
            go_wp2
            go_roundw
            case rel=>exact⟨j+1,l8,q8,cap8,by omega,by go_num,rfl,by rw[HZ.out,HL8.out,HY7.out,HY6.out];simp,HG8.out⟩
            case measure=>simp[intOf];omega
        · have g0:(0:Int)<(j:Int):=by omega
          have gd1:decide ((0:Int)<(j:Int))=true:=decide_eq_true g0
          have gd2:decide (0<j)=true:=decide_eq_true (by omega)
          have HZ:Hid (xs++cjn s (j+1)=zs++[44,32]++(nm.data.toList++32::(tt++[]))):=by show _=_;rw[hnx,if_neg hj0,HZe.out];simp
          have hzz:=congrArg List.length HZ.out
          simp only[List.length_append,List.length_cons,List.length_nil] at hzz
          rw[hns] at hzz
          have hlim:zs.length+2+nm.size+1+tt.length<=139000000000000:=by omega
          clear hnx hj0 hlx hzz hl1 hzl HLen HEnd
          clear HCv
          go_wp2_with (first
            | (at_builtin;rw[<-HWa.out];refine aI (B:=w0.1.size) (t:=⟨#[44,32]⟩) HHa.out (by rw[show(ByteArray.mk #[44,32]).size=2 from rfl];omega) hBa rfl rfl rfl rfl rfl ?_;intro ys5 q5 cap5 W5 HY5 hH5 ha5 hb5
               have HG5:=tQ (HGa.out.trans (Grx.of ⟨hH5,ha5,hb5⟩ HHa.out))
               have hk5:=(Grx.of ⟨hH5,ha5,hb5⟩ HHa.out).blk HBlk.out (by decide)
               have HK5:=tQ hk5
               have e0:W5.cell? ⟨wr.1.size,0,none⟩=some (.string nm):=ab hk5 0
               have hB5:w0.1.size<=W5.1.size:=Nat.le_trans hBs HG5.out.size
               have hy5:ys5.length<=zs.length+2:=by(rw[HY5.out,List.length_append];exact tX)
               clear hH5 ha5 hb5 hk5)
            | (at_builtin;refine aI (B:=w0.1.size) (t:=nm) HG5.out.has (by omega) hB5 rfl rfl rfl rfl rfl ?_;intro ys6 q6 cap6 W6 HY6 hH6 ha6 hb6
               have HG6:=tQ (HG5.out.trans (Grx.of ⟨hH6,ha6,hb6⟩ HG5.out.has))
               have hk6:=(Grx.of ⟨hH6,ha6,hb6⟩ HG5.out.has).blk HK5.out (by decide)
               clear hH6 ha6 hb6)
            |fail)
          have hy6:ys6.length<=zs.length+2+nm.size:=by rw[HY6.out,List.length_append,hns];omega
          clear e0
          have f1:W6.cell? ⟨wr.1.size,1,none⟩=some (.int .i64 kx):=ab hk6 1
          have f2:W6.cell? ⟨wr.1.size,2,none⟩=some (.slice tp tn tc):=ab hk6 2
          have HK6:=tQ hk6
          have z1:∀o,(W6.alloc o).cell? ⟨wr.1.size,1,none⟩=some (.int .i64 kx):=fun o=>ab ((ao W6 o (ae hk6)).trans hk6) 1
          have z2:∀o,(W6.alloc o).cell? ⟨wr.1.size,2,none⟩=some (.slice tp tn tc):=fun o=>ab ((ao W6 o (ae hk6)).trans hk6) 2
          have hB6:w0.1.size<=W6.1.size:=Nat.le_trans hBs HG6.out.size
          have hyl6:ys6.length<=139000000000000:=by omega
          have HH6:=tQ HG6.out.has
          clear hk6 d0 a0 a1 a2 a3 a4 a5 a6 a7 a8 HWa HBlk
          go_region_law (first
            | (refine bf (B:=w0.1.size) (xs:=ys6) (v:=.slice q6 ys6.length cap6) (w:=W6.drew) (H:=W6.1.size) (by rfl) HH6.out.drew 32 (by omega) hB6 (.tmp 22) (.tmp 23) (by rfl) (by rfl) (by rfl) (by rfl) (by rfl) (by rfl) ?_
               intro q7 cap7 W7 ys7 HY7 hg7
               have hgx:=Grx.of hg7.undrew HH6.out
               have HG7:=tQ (HG6.out.trans hgx)
               have hk7:=hgx.blk HK6.out (by decide)
               have HK7:=tQ hk7
               have g1:W7.cell? ⟨wr.1.size,1,none⟩=some (.int .i64 kx):=ab hk7 1
               have g2:W7.cell? ⟨wr.1.size,2,none⟩=some (.slice tp tn tc):=ab hk7 2
               have HB7:=tQ (HB0.out.trans (HG7.out.below hBs))
               have hyl7:ys7.length<=ys6.length+1:=by(rw[HY7.out,List.length_append,List.length_singleton];omega)
               clear hg7 hgx hk7)
            | (refine aZ (.tmp 24) (.tmp 26) 79 32 (by rfl) (by rfl) (by rfl) (by rfl) Tryz.func70 (by kernel_rfl) (by rfl) (HCt.out W7 (.slice q7 ys7.length cap7) ys7 HB7.out HG7.out.has (by omega)) ?_
               intro e w8 hh
               obtain⟨q8,cap8,he8,hg8⟩:=hh.open
               refine⟨_,he8,?_⟩
               have HG8:=tQ (HG7.out.trans hg8)
               have hk8:=hg8.blk HK7.out (by decide)
               obtain⟨l8,hl8⟩:∃l8,l8=ys7++tt:=⟨_,rfl⟩
               rw[<-hl8] at HG8 ⊢
               have HL8:=tQ hl8
               have hl8n:l8.length<=ys6.length+1+tt.length:=by(rw[hl8,List.length_append];omega)
               clear hh hg8 he8 hl8))
          all_goals
            clear f1 f2 g1 g2 z1 z2
            have m3:w8.cell? ⟨wr.1.size,3,none⟩=some (.bool false):=ab hk8 3
            clear hk8
            go_wp2
            go_roundw
            case rel=>exact⟨j+1,l8,q8,cap8,by omega,by go_num,rfl,by rw[HZ.out,HL8.out,HY7.out,HY6.out,HY5.out];simp,HG8.out⟩
            case measure=>simp[intOf];omega
      |true=>
        by_cases hj0:j=0
        · have g0:¬(0:Int)<(j:Int):=by omega
          have gd1:decide ((0:Int)<(j:Int))=false:=decide_eq_false g0
          have gd2:decide (0<j)=false:=decide_eq_false (by omega)
          have HZ:Hid (xs++cjn s (j+1)=zs++(nm.data.toList++32::(tt++32::61::32::dd))):=by show _=_;rw[hnx,if_pos hj0,HZe.out];simp
          have hzz:=congrArg List.length HZ.out
          simp only[List.length_append,List.length_cons] at hzz
          rw[hns] at hzz
          have hlim:zs.length+0+nm.size+1+tt.length+3+dd.length<=139000000000000:=by omega
          clear hnx hj0 hlx hzz hl1 hzl HLen HEnd
          have HCd:=tQ (HCv.out rfl)
          go_wp2_with (first
            | (at_builtin;rw[<-HWa.out];refine aI (B:=w0.1.size) (t:=nm) HHa.out (by omega) hBa rfl rfl rfl rfl rfl ?_;intro ys6 q6 cap6 W6 HY6 hH6 ha6 hb6
               have HG6:=tQ (HGa.out.trans (Grx.of ⟨hH6,ha6,hb6⟩ HHa.out))
               have hk6:=(Grx.of ⟨hH6,ha6,hb6⟩ HHa.out).blk HBlk.out (by decide)
               clear hH6 ha6 hb6)
            |fail)
          have hy6:ys6.length<=zs.length+nm.size:=by rw[HY6.out,List.length_append,hns];omega
          have f1:W6.cell? ⟨wr.1.size,1,none⟩=some (.int .i64 kx):=ab hk6 1
          have f2:W6.cell? ⟨wr.1.size,2,none⟩=some (.slice tp tn tc):=ab hk6 2
          have HK6:=tQ hk6
          have z1:∀o,(W6.alloc o).cell? ⟨wr.1.size,1,none⟩=some (.int .i64 kx):=fun o=>ab ((ao W6 o (ae hk6)).trans hk6) 1
          have z2:∀o,(W6.alloc o).cell? ⟨wr.1.size,2,none⟩=some (.slice tp tn tc):=fun o=>ab ((ao W6 o (ae hk6)).trans hk6) 2
          have hB6:w0.1.size<=W6.1.size:=Nat.le_trans hBs HG6.out.size
          have hyl6:ys6.length<=139000000000000:=by omega
          have HH6:=tQ HG6.out.has
          clear hk6 d0 a0 a1 a2 a3 a4 a5 a6 a7 a8 HWa HBlk
          go_region_law (first
            | (refine bf (B:=w0.1.size) (xs:=ys6) (v:=.slice q6 ys6.length cap6) (w:=W6.drew) (H:=W6.1.size) (by rfl) HH6.out.drew 32 (by omega) hB6 (.tmp 22) (.tmp 23) (by rfl) (by rfl) (by rfl) (by rfl) (by rfl) (by rfl) ?_
               intro q7 cap7 W7 ys7 HY7 hg7
               have hgx:=Grx.of hg7.undrew HH6.out
               have HG7:=tQ (HG6.out.trans hgx)
               have hk7:=hgx.blk HK6.out (by decide)
               have HK7:=tQ hk7
               have g1:W7.cell? ⟨wr.1.size,1,none⟩=some (.int .i64 kx):=ab hk7 1
               have g2:W7.cell? ⟨wr.1.size,2,none⟩=some (.slice tp tn tc):=ab hk7 2
               have HB7:=tQ (HB0.out.trans (HG7.out.below hBs))
               have hyl7:ys7.length<=ys6.length+1:=by(rw[HY7.out,List.length_append,List.length_singleton];omega)
               clear hg7 hgx hk7)
            | (refine aZ (.tmp 24) (.tmp 26) 79 32 (by rfl) (by rfl) (by rfl) (by rfl) Tryz.func70 (by kernel_rfl) (by rfl) (HCt.out W7 (.slice q7 ys7.length cap7) ys7 HB7.out HG7.out.has (by omega)) ?_
               intro e w8 hh
               obtain⟨q8,cap8,he8,hg8⟩:=hh.open
               refine⟨_,he8,?_⟩
               have HG8:=tQ (HG7.out.trans hg8)
               have hk8:=hg8.blk HK7.out (by decide)
               obtain⟨l8,hl8⟩:∃l8,l8=ys7++tt:=⟨_,rfl⟩
               rw[<-hl8] at HG8 ⊢
               have HL8:=tQ hl8
               have hl8n:l8.length<=ys6.length+1+tt.length:=by(rw[hl8,List.length_append];omega)
               clear hh hg8 he8 hl8))
          all_goals
            clear f1 f2 g1 g2 z1 z2
            have m3:w8.cell? ⟨wr.1.size,3,none⟩=some (.bool true):=ab hk8 3
            have m4:w8.cell? ⟨wr.1.size,4,none⟩=some (.int .i64 vk):=ab hk8 4
            have m5:w8.cell? ⟨wr.1.size,5,none⟩=some (.int .i64 vi):=ab hk8 5
            have m6:w8.cell? ⟨wr.1.size,6,none⟩=some (.float .f64 vb):=ab hk8 6
            have m7:w8.cell? ⟨wr.1.size,7,none⟩=some (.string vt):=ab hk8 7
            have m8:w8.cell? ⟨wr.1.size,8,none⟩=some (.slice vp vn vc):=ab hk8 8
            have HK8:=tQ hk8
            have HH8:=tQ HG8.out.has
            have hB8:w0.1.size<=w8.1.size:=Nat.le_trans hBs HG8.out.size
            clear hk8
            go_wp2_with fail
            go_region_law (first
              | (refine ey (B:=w0.1.size) (xs:=l8) (t:=⟨#[32,61,32]⟩) (w:=w8.drew) (v:=.slice q8 l8.length cap8) HH8.out.drew (by rw[show(ByteArray.mk #[32,61,32]).size=3 from rfl];omega) hB8 (.tmp 30) (.const (.string ⟨#[32,61,32]⟩)) (by rfl) (by rfl) (by rfl) (by rfl) (by rfl) ?_
                 intro q9 cap9 W9 ys9 HY9 hg9
                 have hgx9:=Grx.of hg9.undrew HH8.out
                 have HG9:=tQ (HG8.out.trans hgx9)
                 have hk9:=hgx9.blk HK8.out (by decide)
                 have n4:W9.cell? ⟨wr.1.size,4,none⟩=some (.int .i64 vk):=ab hk9 4
                 have n5:W9.cell? ⟨wr.1.size,5,none⟩=some (.int .i64 vi):=ab hk9 5
                 have n6:W9.cell? ⟨wr.1.size,6,none⟩=some (.float .f64 vb):=ab hk9 6
                 have n7:W9.cell? ⟨wr.1.size,7,none⟩=some (.string vt):=ab hk9 7
                 have n8:W9.cell? ⟨wr.1.size,8,none⟩=some (.slice vp vn vc):=ab hk9 8
                 have HB9:=tQ (HB0.out.trans (HG9.out.below hBs))
                 have hyl9:ys9.length<=l8.length+3:=by(rw[HY9.out,List.length_append];exact tX)
                 clear hg9 hgx9 hk9)
              | (refine aZ (.tmp 31) (.tmp 33) 79 36 (by rfl) (by rfl) (by rfl) (by rfl) Tryz.func42 (by kernel_rfl) (by rfl) (HCd.out W9 (.slice q9 ys9.length cap9) ys9 HB9.out HG9.out.has (by omega)) ?_
                 intro e w10 hh
                 obtain⟨q10,cap10,he10,hg10⟩:=hh.open
                 refine⟨_,he10,?_⟩
                 have HG10:=tQ (HG9.out.trans hg10)
                 obtain⟨l10,hl10⟩:∃l10,l10=ys9++dd:=⟨_,rfl⟩
                 rw[<-hl10] at HG10 ⊢
                 have HL10:=tQ hl10
                 clear hh hg10 he10 hl10))
            all_goals
              go_wp2
              go_roundw
              case rel=>exact⟨j+1,l10,q10,cap10,by omega,by go_num,rfl,by rw[HZ.out,HL10.out,HY9.out,HL8.out,HY7.out,HY6.out];simp,HG10.out⟩
              case measure=>simp[intOf];omega
        · have g0:(0:Int)<(j:Int):=by omega
          have gd1:decide ((0:Int)<(j:Int))=true:=decide_eq_true g0
          have gd2:decide (0<j)=true:=decide_eq_true (by omega)
          have HZ:Hid (xs++cjn s (j+1)=zs++[44,32]++(nm.data.toList++32::(tt++32::61::32::dd))):=by show _=_;rw[hnx,if_neg hj0,HZe.out];simp
          have hzz:=congrArg List.length HZ.out
          simp only[List.length_append,List.length_cons,List.length_nil] at hzz
          rw[hns] at hzz
          have hlim:zs.length+2+nm.size+1+tt.length+3+dd.length<=139000000000000:=by omega
          clear hnx hj0 hlx hzz hl1 hzl HLen HEnd
          have HCd:=tQ (HCv.out rfl)
          go_wp2_with (first
            | (at_builtin;rw[<-HWa.out];refine aI (B:=w0.1.size) (t:=⟨#[44,32]⟩) HHa.out (by rw[show(ByteArray.mk #[44,32]).size=2 from rfl];omega) hBa rfl rfl rfl rfl rfl ?_;intro ys5 q5 cap5 W5 HY5 hH5 ha5 hb5
               have HG5:=tQ (HGa.out.trans (Grx.of ⟨hH5,ha5,hb5⟩ HHa.out))
               have hk5:=(Grx.of ⟨hH5,ha5,hb5⟩ HHa.out).blk HBlk.out (by decide)
               have HK5:=tQ hk5
               have e0:W5.cell? ⟨wr.1.size,0,none⟩=some (.string nm):=ab hk5 0
               have hB5:w0.1.size<=W5.1.size:=Nat.le_trans hBs HG5.out.size
               have hy5:ys5.length<=zs.length+2:=by(rw[HY5.out,List.length_append];exact tX)
               clear hH5 ha5 hb5 hk5)
            | (at_builtin;refine aI (B:=w0.1.size) (t:=nm) HG5.out.has (by omega) hB5 rfl rfl rfl rfl rfl ?_;intro ys6 q6 cap6 W6 HY6 hH6 ha6 hb6
               have HG6:=tQ (HG5.out.trans (Grx.of ⟨hH6,ha6,hb6⟩ HG5.out.has))
               have hk6:=(Grx.of ⟨hH6,ha6,hb6⟩ HG5.out.has).blk HK5.out (by decide)
               clear hH6 ha6 hb6)
            |fail)
          have hy6:ys6.length<=zs.length+2+nm.size:=by rw[HY6.out,List.length_append,hns];omega
          clear e0
          have f1:W6.cell? ⟨wr.1.size,1,none⟩=some (.int .i64 kx):=ab hk6 1
          have f2:W6.cell? ⟨wr.1.size,2,none⟩=some (.slice tp tn tc):=ab hk6 2
          have HK6:=tQ hk6
          have z1:∀o,(W6.alloc o).cell? ⟨wr.1.size,1,none⟩=some (.int .i64 kx):=fun o=>ab ((ao W6 o (ae hk6)).trans hk6) 1
          have z2:∀o,(W6.alloc o).cell? ⟨wr.1.size,2,none⟩=some (.slice tp tn tc):=fun o=>ab ((ao W6 o (ae hk6)).trans hk6) 2
          have hB6:w0.1.size<=W6.1.size:=Nat.le_trans hBs HG6.out.size
          have hyl6:ys6.length<=139000000000000:=by omega
          have HH6:=tQ HG6.out.has
          clear hk6 d0 a0 a1 a2 a3 a4 a5 a6 a7 a8 HWa HBlk
          go_region_law (first
            | (refine bf (B:=w0.1.size) (xs:=ys6) (v:=.slice q6 ys6.length cap6) (w:=W6.drew) (H:=W6.1.size) (by rfl) HH6.out.drew 32 (by omega) hB6 (.tmp 22) (.tmp 23) (by rfl) (by rfl) (by rfl) (by rfl) (by rfl) (by rfl) ?_
               intro q7 cap7 W7 ys7 HY7 hg7
               have hgx:=Grx.of hg7.undrew HH6.out
               have HG7:=tQ (HG6.out.trans hgx)
               have hk7:=hgx.blk HK6.out (by decide)
               have HK7:=tQ hk7
               have g1:W7.cell? ⟨wr.1.size,1,none⟩=some (.int .i64 kx):=ab hk7 1
               have g2:W7.cell? ⟨wr.1.size,2,none⟩=some (.slice tp tn tc):=ab hk7 2
               have HB7:=tQ (HB0.out.trans (HG7.out.below hBs))
               have hyl7:ys7.length<=ys6.length+1:=by(rw[HY7.out,List.length_append,List.length_singleton];omega)
               clear hg7 hgx hk7)
            | (refine aZ (.tmp 24) (.tmp 26) 79 32 (by rfl) (by rfl) (by rfl) (by rfl) Tryz.func70 (by kernel_rfl) (by rfl) (HCt.out W7 (.slice q7 ys7.length cap7) ys7 HB7.out HG7.out.has (by omega)) ?_
               intro e w8 hh
               obtain⟨q8,cap8,he8,hg8⟩:=hh.open
               refine⟨_,he8,?_⟩
               have HG8:=tQ (HG7.out.trans hg8)
               have hk8:=hg8.blk HK7.out (by decide)
               obtain⟨l8,hl8⟩:∃l8,l8=ys7++tt:=⟨_,rfl⟩
               rw[<-hl8] at HG8 ⊢
               have HL8:=tQ hl8
               have hl8n:l8.length<=ys6.length+1+tt.length:=by(rw[hl8,List.length_append];omega)
               clear hh hg8 he8 hl8))
          all_goals
            clear f1 f2 g1 g2 z1 z2
            have m3:w8.cell? ⟨wr.1.size,3,none⟩=some (.bool true):=ab hk8 3
            have m4:w8.cell? ⟨wr.1.size,4,none⟩=some (.int .i64 vk):=ab hk8 4
            have m5:w8.cell? ⟨wr.1.size,5,none⟩=some (.int .i64 vi):=ab hk8 5
            have m6:w8.cell? ⟨wr.1.size,6,none⟩=some (.float .f64 vb):=ab hk8 6
            have m7:w8.cell? ⟨wr.1.size,7,none⟩=some (.string vt):=ab hk8 7
            have m8:w8.cell? ⟨wr.1.size,8,none⟩=some (.slice vp vn vc):=ab hk8 8
            have HK8:=tQ hk8
            have HH8:=tQ HG8.out.has
            have hB8:w0.1.size<=w8.1.size:=Nat.le_trans hBs HG8.out.size
            clear hk8
            go_wp2_with fail
            go_region_law (first
              | (refine ey (B:=w0.1.size) (xs:=l8) (t:=⟨#[32,61,32]⟩) (w:=w8.drew) (v:=.slice q8 l8.length cap8) HH8.out.drew (by rw[show(ByteArray.mk #[32,61,32]).size=3 from rfl];omega) hB8 (.tmp 30) (.const (.string ⟨#[32,61,32]⟩)) (by rfl) (by rfl) (by rfl) (by rfl) (by rfl) ?_
                 intro q9 cap9 W9 ys9 HY9 hg9
                 have hgx9:=Grx.of hg9.undrew HH8.out
                 have HG9:=tQ (HG8.out.trans hgx9)
                 have hk9:=hgx9.blk HK8.out (by decide)
                 have n4:W9.cell? ⟨wr.1.size,4,none⟩=some (.int .i64 vk):=ab hk9 4
                 have n5:W9.cell? ⟨wr.1.size,5,none⟩=some (.int .i64 vi):=ab hk9 5
                 have n6:W9.cell? ⟨wr.1.size,6,none⟩=some (.float .f64 vb):=ab hk9 6
                 have n7:W9.cell? ⟨wr.1.size,7,none⟩=some (.string vt):=ab hk9 7
                 have n8:W9.cell? ⟨wr.1.size,8,none⟩=some (.slice vp vn vc):=ab hk9 8
                 have HB9:=tQ (HB0.out.trans (HG9.out.below hBs))
                 have hyl9:ys9.length<=l8.length+3:=by(rw[HY9.out,List.length_append];exact tX)
                 clear hg9 hgx9 hk9)
              | (refine aZ (.tmp 31) (.tmp 33) 79 36 (by rfl) (by rfl) (by rfl) (by rfl) Tryz.func42 (by kernel_rfl) (by rfl) (HCd.out W9 (.slice q9 ys9.length cap9) ys9 HB9.out HG9.out.has (by omega)) ?_
                 intro e w10 hh
                 obtain⟨q10,cap10,he10,hg10⟩:=hh.open
                 refine⟨_,he10,?_⟩
                 have HG10:=tQ (HG9.out.trans hg10)
                 obtain⟨l10,hl10⟩:∃l10,l10=ys9++dd:=⟨_,rfl⟩
                 rw[<-hl10] at HG10 ⊢
                 have HL10:=tQ hl10
                 clear hh hg10 he10 hl10))
            all_goals
              go_wp2
              go_roundw
              case rel=>exact⟨j+1,l10,q10,cap10,by omega,by go_num,rfl,by rw[HZ.out,HL10.out,HY9.out,HL8.out,HY7.out,HY6.out,HY5.out];simp,HG10.out⟩
              case measure=>simp[intOf];omega
    · have hjn:¬(j:Int)<(n:Int):=by omega
      have HE:Hid (L=zs):=by
        show _=_
        rw[HL.out.1];exact(HEnd.out j (by omega)).symm
      have HG:=tQ HL.out.2
      clear HL hbr
      go_wp2
      go_ret
      rw[HE.out]
      exact⟨q,cap,rfl,HG.out⟩
end
section
open Go.RowKit
attribute [local go_sem] ah
def lh(w:World)(er:Nat)(T:Tx.Bs)(e:Ending)(w':World):Prop:=e=.returned (.tuple #[.string ⟨(if er=0 then T else []).toArray⟩,.int .i64 (er:Nat)])∧Below w.1.size w w'
theorem lh.open{w w':World}{er:Nat}{T:Tx.Bs}{e:Ending}(h:lh w er T e w'):e=.returned (.tuple #[.string ⟨(if er=0 then T else []).toArray⟩,.int .i64 (er:Nat)])∧Below w.1.size w w':=h
theorem nc{s:List Col}(h:Sch.err s=0)(hw:∀x∈s,x.wf):(Tx.sch text s).length<=138000000000000:=by
 obtain⟨-,h16,hce,-⟩:=Sch.err_open h
 have hj:=jK 135000000100 (s.map (Tx.col text)) (fun y hy=>by
  obtain⟨z,hz,rfl⟩:=List.mem_map.1 hy
  obtain⟨l',hl'⟩:=Sch.colsErr_mem s [] hce z hz
  obtain⟨hnm,-,hty,-,hdf2⟩:=Sch.col_open hl'
  obtain⟨wn,wty,wd⟩:=hw z hz
  have h1:=oC z.ty 1 hty
  have h0:=(Sch.name_size hnm).2
  have hns:z.name.data.toList.length=z.name.size:=by rw[Array.length_toList];rfl
  unfold Tx.col
  simp only[List.length_append,List.length_cons]
  by_cases hh:z.has=true
  ·have h2:=iM (tx:=text) gm (hdf2 hh).1 tX wd
   rw[if_pos hh]
   simp only[List.length_cons]
   omega
  ·rw[if_neg hh]
   simp only[List.length_nil]
   omega)
 rw[List.length_map] at hj
 have h8:s.length*(135000000100+2)<=16*(135000000100+2):=Nat.mul_le_mul_right _ h16
 unfold Tx.sch
 omega
theorem jC(p:OA)(n c:Nat)(er:Nat)(T:Tx.Bs)(w:World)(hv0:Hv w)(HCk:Hid (∀w',Below w.1.size w w'->Calls Tryz.prog 22 #[.agg #[.slice p n c]] w' fun e w''=>e=.returned (.int .i64 (er:Nat))∧Below w'.1.size w' w''))(HAp:Hid (er=0->∀w',Below w.1.size w w'->Hv w'->Calls Tryz.prog 41 #[.slice none 0 0,.slice p n c] w' (bG w' w'.1.size T))):
  Calls Tryz.prog 16 #[.agg #[.slice p n c]] w (lh w er T):=by
 obtain⟨W0,hW0⟩:∃W0,W0=w.alloc (.cells #[.slice p n c] 25):=⟨_,rfl⟩
 have hbW:Below w.1.size w W0:=by rw[hW0];exact tY
 have hblk:W0.1[w.1.size]?=some (.cells #[.slice p n c] 25 (0,0)):=by rw[hW0];exact aj w _
 have HC1:=tQ (HCk.out W0 hbW)
 have HB0:=tQ hbW
 have HW0:=tQ hW0
 have HBk:=tQ hblk
 have HHv:=tQ (hv0.on hbW hv0.size)
 have hs7:7<=W0.1.size:=Nat.le_trans hv0.size hbW.size
 have c0:W0.cell? ⟨w.1.size,0,none⟩=some (.slice p n c):=ab hblk 0
 clear hW0 hbW hblk HCk
 go_enter Tryz.func16,Tryz.ntmps16
 go_wp2_with fail
 rw[<-HW0.out]
 refine HC1.out.mono ?_
 rintro e w1 ⟨rfl,hb1⟩
 have HB1:=tQ (HB0.out.trans (hb1.mono HB0.out.size))
 have hk1:=ay HBk.out hb1 (ae HBk.out)
 have HV1:=tQ (HHv.out.on hb1 hs7)
 clear hb1 HC1 HBk HHv
 clear c0
 have d0:w1.cell? ⟨w.1.size,0,none⟩=some (.slice p n c):=ab hk1 0
 clear hk1
 by_cases h0:er=0
 ·have g0:((er:Int) != 0)=false:=bO (by omega)
  have HA:=tQ (HAp.out h0 w1 HB1.out HV1.out)
  have HE:Hid ((if er=0 then T else [])=T):=by show _=_;rw[if_pos h0]
  have HZ:=tQ h0
  clear h0 HAp
  go_wp2_with fail
  refine HA.out.mono ?_
  intro e w2 hh
  obtain⟨q,cap,he,hg⟩:=hh.open
  subst he
  obtain⟨p5,cap5,he5,hat5,-⟩:=hg.has.at
  injection he5 with he6 he7 he8
  have hcv:=cZ hat5 cap
  rw[<-he6] at hcv
  have HB2:=tQ (HB1.out.trans ((hg.below tX).mono HB1.out.size))
  clear hh hg HA he6 he7 he8 hat5
  go_wp2
  go_ret2
  refine⟨?_,HB2.out⟩
  rw[HE.out,HZ.out]
  rfl
 ·have g0:((er:Int) != 0)=true:=bM (by omega)
  have HE:Hid ((if er=0 then T else [])=[]):=by show _=_;rw[if_neg h0]
  clear h0 HAp
  go_wp2
  go_ret2
  refine⟨?_,HB1.out⟩
  rw[HE.out]
  rfl
theorem kz(k i:Int)(b:Nat)(t:ByteArray)(p:OA)(n c:Nat)(er:Nat)(T:Tx.Bs)(w:World)(hv0:Hv w)(HCk:Hid (∀w',Below w.1.size w w'->Calls Tryz.prog 34 #[.agg #[.int .i64 k,.int .i64 i,.float .f64 b,.string t,.slice p n c]] w' fun e w''=>e=.returned (.int .i64 (er:Nat))∧Below w'.1.size w' w''))(HAp:Hid (er=0->∀w',Below w.1.size w w'->Hv w'->Calls Tryz.prog 42 #[.slice none 0 0,.agg #[.int .i64 k,.int .i64 i,.float .f64 b,.string t,.slice p n c]] w' (bG w' w'.1.size T))):
  Calls Tryz.prog 17 #[.agg #[.int .i64 k,.int .i64 i,.float .f64 b,.string t,.slice p n c]] w (lh w er T):=by
 obtain⟨W0,hW0⟩:∃W0,W0=w.alloc (.cells #[.int .i64 k,.int .i64 i,.float .f64 b,.string t,.slice p n c] 36):=⟨_,rfl⟩
 have hbW:Below w.1.size w W0:=by rw[hW0];exact tY
 have hblk:W0.1[w.1.size]?=some (.cells #[.int .i64 k,.int .i64 i,.float .f64 b,.string t,.slice p n c] 36 (0,0)):=by rw[hW0];exact aj w _
 have HC1:=tQ (HCk.out W0 hbW)
 have HB0:=tQ hbW
 have HW0:=tQ hW0
 have HBk:=tQ hblk
 have HHv:=tQ (hv0.on hbW hv0.size)
 have hs7:7<=W0.1.size:=Nat.le_trans hv0.size hbW.size
 have c0:W0.cell? ⟨w.1.size,0,none⟩=some (.int .i64 k):=ab hblk 0
 have c1:W0.cell? ⟨w.1.size,1,none⟩=some (.int .i64 i):=ab hblk 1
 have c2:W0.cell? ⟨w.1.size,2,none⟩=some (.float .f64 b):=ab hblk 2
 have c3:W0.cell? ⟨w.1.size,3,none⟩=some (.string t):=ab hblk 3
 have c4:W0.cell? ⟨w.1.size,4,none⟩=some (.slice p n c):=ab hblk 4
 clear hW0 hbW hblk HCk
 go_enter Tryz.func17,Tryz.ntmps17
 go_wp2_with fail
 rw[<-HW0.out]
 refine HC1.out.mono ?_
 rintro e w1 ⟨rfl,hb1⟩
 have HB1:=tQ (HB0.out.trans (hb1.mono HB0.out.size))
 have hk1:=ay HBk.out hb1 (ae HBk.out)
 have HV1:=tQ (HHv.out.on hb1 hs7)
 clear hb1 HC1 HBk HHv
 clear c0
 clear c1
 clear c2
 clear c3
 clear c4
 have d0:w1.cell? ⟨w.1.size,0,none⟩=some (.int .i64 k):=ab hk1 0
 have d1:w1.cell? ⟨w.1.size,1,none⟩=some (.int .i64 i):=ab hk1 1
 have d2:w1.cell? ⟨w.1.size,2,none⟩=some (.float .f64 b):=ab hk1 2
 have d3:w1.cell? ⟨w.1.size,3,none⟩=some (.string t):=ab hk1 3
 have d4:w1.cell? ⟨w.1.size,4,none⟩=some (.slice p n c):=ab hk1 4
 clear hk1
 by_cases h0:er=0
 ·have g0:((er:Int) != 0)=false:=bO (by omega)
  have HA:=tQ (HAp.out h0 w1 HB1.out HV1.out)
  have HE:Hid ((if er=0 then T else [])=T):=by show _=_;rw[if_pos h0]
  have HZ:=tQ h0
  clear h0 HAp
  go_wp2_with fail
  refine HA.out.mono ?_
  intro e w2 hh
  obtain⟨q,cap,he,hg⟩:=hh.open
  subst he
  obtain⟨p5,cap5,he5,hat5,-⟩:=hg.has.at
  injection he5 with he6 he7 he8
  have hcv:=cZ hat5 cap
  rw[<-he6] at hcv
  have HB2:=tQ (HB1.out.trans ((hg.below tX).mono HB1.out.size))
  clear hh hg HA he6 he7 he8 hat5
  go_wp2
  go_ret2
  refine⟨?_,HB2.out⟩
  rw[HE.out,HZ.out]
  rfl
 ·have g0:((er:Int) != 0)=true:=bM (by omega)
  have HE:Hid ((if er=0 then T else [])=[]):=by show _=_;rw[if_neg h0]
  clear h0 HAp
  go_wp2
  go_ret2
  refine⟨?_,HB1.out⟩
  rw[HE.out]
  rfl
theorem nD(p:OA)(n c:Nat)(er:Nat)(T:Tx.Bs)(w:World)(hv0:Hv w)(HCk:Hid (∀w',Below w.1.size w w'->Calls Tryz.prog 40 #[.agg #[.slice p n c]] w' fun e w''=>e=.returned (.int .i64 (er:Nat))∧Below w'.1.size w' w''))(HAp:Hid (er=0->∀w',Below w.1.size w w'->Hv w'->Calls Tryz.prog 46 #[.slice none 0 0,.slice p n c] w' (bG w' w'.1.size T))):
  Calls Tryz.prog 19 #[.agg #[.slice p n c]] w (lh w er T):=by
 obtain⟨W0,hW0⟩:∃W0,W0=w.alloc (.cells #[.slice p n c] 44):=⟨_,rfl⟩
 have hbW:Below w.1.size w W0:=by rw[hW0];exact tY
 have hblk:W0.1[w.1.size]?=some (.cells #[.slice p n c] 44 (0,0)):=by rw[hW0];exact aj w _
 have HC1:=tQ (HCk.out W0 hbW)
 have HB0:=tQ hbW
 have HW0:=tQ hW0
 have HBk:=tQ hblk
 have HHv:=tQ (hv0.on hbW hv0.size)
 have hs7:7<=W0.1.size:=Nat.le_trans hv0.size hbW.size
 have c0:W0.cell? ⟨w.1.size,0,none⟩=some (.slice p n c):=ab hblk 0
 clear hW0 hbW hblk HCk
 go_enter Tryz.func19,Tryz.ntmps19
 go_wp2_with fail
 rw[<-HW0.out]
 refine HC1.out.mono ?_
 rintro e w1 ⟨rfl,hb1⟩
 have HB1:=tQ (HB0.out.trans (hb1.mono HB0.out.size))
 have hk1:=ay HBk.out hb1 (ae HBk.out)
 have HV1:=tQ (HHv.out.on hb1 hs7)
 clear hb1 HC1 HBk HHv
 clear c0
 have d0:w1.cell? ⟨w.1.size,0,none⟩=some (.slice p n c):=ab hk1 0
 clear hk1
 by_cases h0:er=0
 ·have g0:((er:Int) != 0)=false:=bO (by omega)
  have HA:=tQ (HAp.out h0 w1 HB1.out HV1.out)
  have HE:Hid ((if er=0 then T else [])=T):=by show _=_;rw[if_pos h0]
  have HZ:=tQ h0
  clear h0 HAp
  go_wp2_with fail
  refine HA.out.mono ?_
  intro e w2 hh
  obtain⟨q,cap,he,hg⟩:=hh.open
  subst he
  obtain⟨p5,cap5,he5,hat5,-⟩:=hg.has.at
  injection he5 with he6 he7 he8
  have hcv:=cZ hat5 cap
  rw[<-he6] at hcv
  have HB2:=tQ (HB1.out.trans ((hg.below tX).mono HB1.out.size))
  clear hh hg HA he6 he7 he8 hat5
  go_wp2
  go_ret2
  refine⟨?_,HB2.out⟩
  rw[HE.out,HZ.out]
  rfl
 ·have g0:((er:Int) != 0)=true:=bM (by omega)
  have HE:Hid ((if er=0 then T else [])=[]):=by show _=_;rw[if_neg h0]
  clear h0 HAp
  go_wp2
  go_ret2
  refine⟨?_,HB1.out⟩
  rw[HE.out]
  rfl
theorem j5(s:List Col)(p:OA)(c:Nat)(w:World)(hv:Hv w)(hs:s.length*120<=140737488351232)(hx:bA w p s)(hwf:∀x∈s,x.wf):Calls Tryz.prog 16 #[.agg #[.slice p s.length c]] w (lh w (Sch.err s) (Tx.sch text s)):=by
 refine jC p s.length c _ _ w hv (fun w' hb=>mG s p c w' hs (hx.on hb) hwf) (fun h0 w' hb hv'=>?_)
 have hsh:=nc h0 hwf
 obtain⟨-,h16,hce,-⟩:=Sch.err_open h0
 have hall:∀x∈s,Ty.check 1 x.ty=0∧(x.has=true->chk 1 x.dflt=0):=fun x hx=>by
  obtain⟨l',hl'⟩:=Sch.colsErr_mem s [] hce x hx
  obtain⟨-,-,hty,-,hdf2⟩:=Sch.col_open hl'
  exact⟨hty,fun hh=>(hdf2 hh).1⟩
 exact hJ s h16 (fun x hx=>(hall x hx).1) (fun x hx hh=>du x.dflt 1 tX ((hall x hx).2 hh) (hwf x hx).2.2) p c w' w' hv' (hx.on hb) tZ (.slice none 0 0) [] (cj _ _) (by simp only[List.length_nil];omega)
theorem li(x:V)(w:World)(u:AV)(hv:Hv w)(hx:av w u x)(hw:x.wf):Calls Tryz.prog 17 #[.agg u] w (lh w (chk 1 x) (Tx.val text x)):=by
 obtain⟨k,i,b,t,xs⟩:=x
 obtain⟨p,c,rfl,-⟩:=hx.open
 refine kz k i b t p xs.length c _ _ w hv (fun w' hb=>jS _ w' _ (hx.on hb)) (fun h0 w' hb hv'=>?_)
 have hsh:=iM (tx:=text) gm h0 tX hw
 exact du (.mk k i b t xs) 1 tX h0 hw w' w' _ (.slice none 0 0) [] hv' (hx.on hb) tZ (cj _ _) (by simp only[List.length_nil];omega)
theorem di:∀(xs:List V),aE xs=0->∀x∈xs,chk 1 x=0
 | [],_,x,hx=>by cases hx
 |y::l,h,x,hx=>by
  unfold aE at h
  by_cases h1:chk 1 y=0
  ·rw[if_pos h1] at h
   rcases List.mem_cons.1 hx with rfl | hx
   ·exact h1
   ·exact di l h x hx
  ·rw[if_neg h1] at h;exact absurd h h1
theorem oi(xs:List V)(p:OA)(c:Nat)(w:World)(hv:Hv w)(hl:xs.length*64<=140737488351232)(hx:bv w p xs)(hwf:∀x∈xs,x.wf)(hlen:aE xs=0->(Tx.row text xs).length<=139000000000000):Calls Tryz.prog 19 #[.agg #[.slice p xs.length c]] w (lh w (aE xs) (Tx.row text xs)):=by
 refine nD p xs.length c _ _ w hv (fun w' hb=>jl xs p c w' (hx.on hb) hl) (fun h0 w' hb hv'=>?_)
 have hl2:=hlen h0
 unfold Tx.row at hl2
 exact cR xs (by omega) (fun x hx=>du x 1 tX (di xs h0 x hx) (hwf x hx)) p c w' w' hv' (hx.on hb) tZ (.slice none 0 0) [] (cj _ _) (by simp only[List.length_nil];omega)
end
end Go.Proofs.YtllbniljgcgbeaaGreatDoor
