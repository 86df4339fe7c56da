import Derived.Test.YtclhbhhlddbocaaGreatDoorWR12H
import Derived.Test.YtclhbhhlddbocaaGreatDoorA10
set_option maxRecDepth 100000
set_option maxHeartbeats 16000000
namespace Go.Proofs.YtclhbhhlddbocaaGreatDoor
open Go.RowKit
theorem lies_lt12 {w:World} {g:Nat} {o:Obj} (h:w.heap[g]? = some o):g < w.heap.size:=(Array.getElem?_eq_some_iff.1 h).1
theorem sown_aside {w w':World} {B:Nat} {u:Array Value} {s:List Col} {G:Nat → Prop} (h:SOwn w B u s) (ha:Aside G w w') (hG:∀ k,B ≤ k → k < w.heap.size → ¬ G k):SOwn w' B u s:=by
 obtain ⟨v,us,Fs,rfl,hb,hl⟩:=h.out
 exact ⟨v,us,Fs,rfl,hb.aside ha (fun g hg => hG g (hb.lt g hg).1 (hb.lt g hg).2) (fun j hj k hk => hG k (hb.range j hj k hk).1 (hb.range j hj k hk).2),hl⟩
theorem FOwn.aside {w w':World} {B:Nat} {u:Array Value} {f:Fr} {G:Nat → Prop} (h:FOwn w B u f) (ha:Aside G w w') (hG:∀ k,B ≤ k → k < w.heap.size → ¬ G k):FOwn w' B u f:=by
 obtain ⟨sp,sc,bp,bc,ep,ec,h0,h1,h2,h3,h4,h5⟩:=h.out
 exact ⟨sp,sc,bp,bc,ep,ec,h0,sown_aside h1 ha hG,h2.aside ha (fun k hk => hG k (h2.lt k hk).1 (h2.lt k hk).2),h3,h4.aside ha (fun k hk => hG k (h4.lt k hk).1 (h4.lt k hk).2),h5⟩
theorem FOwn.low {w:World} {B B':Nat} {u:Array Value} {f:Fr} (h:FOwn w B u f) (hB:B' ≤ B):FOwn w B' u f:=by
 obtain ⟨sp,sc,bp,bc,ep,ec,h0,h1,h2,h3,h4,h5⟩:=h.out
 exact ⟨sp,sc,bp,bc,ep,ec,h0,sown_low h1 hB,h2.low hB,h3,h4.low hB,h5⟩
theorem nbs_one (lim:Nat) (l:List UInt8):Fr.nbs [lim] l = match Fr.nb lim l with | .error e => .error e | .ok (n,k) => .ok ([n],k):=by
 unfold Fr.nbs
 cases Fr.nb lim l with
 | error e => rfl
 | ok r => rfl
theorem le4_iff (d0 d1 d2 d3:UInt8) (S:Nat):[d0,d1,d2,d3] = Sch.le 4 S ↔ ∀ j (_:j < 4),([d0,d1,d2,d3]:List UInt8)[j].toNat = S / 256 ^ j % 256:=by
 have e:Sch.le 4 S = [UInt8.ofNat (S % 256),UInt8.ofNat (S / 256 % 256),UInt8.ofNat (S / 256 / 256 % 256),UInt8.ofNat (S / 256 / 256 / 256 % 256)]:=rfl
 rw [e]
 constructor
 ·intro h j hj
  simp only [List.cons.injEq,and_true] at h
  obtain ⟨rfl,rfl,rfl,rfl⟩:=h
  match j,hj with
  | 0,_ => simp
  | 1,_ => simp
  | 2,_ => simp [Nat.div_div_eq_div_mul]
  | 3,_ => simp [Nat.div_div_eq_div_mul]
 ·intro h
  have h0:=h 0 (by omega)
  have h1:=h 1 (by omega)
  have h2:=h 2 (by omega)
  have h3:=h 3 (by omega)
  simp only [List.getElem_cons_zero,List.getElem_cons_succ] at h0 h1 h2 h3
  simp only [List.cons.injEq,and_true]
  refine ⟨UInt8.toNat_inj.1 ?_,UInt8.toNat_inj.1 ?_,UInt8.toNat_inj.1 ?_,UInt8.toNat_inj.1 ?_⟩
  ·rw [h0];simp
  ·rw [h1];simp
  ·rw [h2];simp [Nat.div_div_eq_div_mul]
  ·rw [h3];simp [Nat.div_div_eq_div_mul]
theorem open_of {l C:List UInt8} {d0 d1 d2 d3:UInt8} (hl:l.length ≤ 2200) (hu:Cob.un l = (0,C ++ [d0,d1,d2,d3])) (hC:1 ≤ C.length):Fr.open_ l = if [d0,d1,d2,d3] = Sch.le 4 (Crc.sum C) then .ok C else .error 120:=by
 unfold Fr.open_
 have e1:(C ++ [d0,d1,d2,d3]).length - 4 = C.length:=by simp
 rw [if_neg (by omega),hu]
 simp only [ne_eq,not_true_eq_false,if_false]
 rw [if_neg (by simp;omega),e1,List.drop_left,List.take_left]
theorem refDec_mid (p:Option Addr) (c:Nat) (l:List UInt8) (hl:l.length ≤ 2200) (C:List UInt8) (d0 d1 d2 d3:UInt8) (hu:Cob.un l = (0,C ++ [d0,d1,d2,d3])) (hC:1 ≤ C.length) (hC2:C.length ≤ 2200) (w:World) (h:At w p l) :
    Calls Tryz.prog 70 #[.slice p l.length c] w (DecF w (Fr.dec l)):=by
  obtain ⟨w0,hw0⟩:∃ w0,w0 = w.alloc (.cells #[.int .i64 0,.int .i64 0,.slice none 0 0,.int .i64 0,.int .i64 0,.int .i64 0,.slice none 0 0,.int .i64 0,.int .i64 0,.int .i64 0,.slice none 0 0] 30):=⟨_,rfl⟩
  have hz0:w0.heap.size = w.heap.size + 1:=by rw [hw0];simp
  have HB0:Hid (Below w.heap.size w w0):=by rw [hw0];exact (Below.refl _ _).alloc (Nat.le_refl _) _
  have hK0:w0.heap[w.heap.size]? = some (.cells #[.int .i64 0,.int .i64 0,.slice none 0 0,.int .i64 0,.int .i64 0,.int .i64 0,.slice none 0 0,.int .i64 0,.int .i64 0,.int .i64 0,.slice none 0 0] 30 (0,0)):=by rw [hw0];exact blk_new w _
  have HW0:Hid (w.alloc (.cells #[.int .i64 0,.int .i64 0,.slice none 0 0,.int .i64 0,.int .i64 0,.int .i64 0,.slice none 0 0,.int .i64 0,.int .i64 0,.int .i64 0,.slice none 0 0] 30) = w0):=by rw [hw0];exact rfl
  have HU:=Lib.hid (refUnstuff_any p c l (by omega) w0 (h.on HB0.out))
  rw [hu] at HU
  simp only at HU
  have hnl:¬ (2200:Int) < (l.length:Int):=by omega
  obtain ⟨R,hR⟩:∃ R,R = Fr.dec l:=⟨_,rfl⟩
  rw [← hR]
  have HOp:=Lib.hid (open_of hl hu hC)
  have HR:=Lib.hid hR
  have HRd:=Lib.hid hR
  clear hw0 h hR hu
  go_enter Tryz.func70,Tryz.ntmps70
  go_wp2_with fail
  rw [HW0.out]
  refine HU.out.mono ?_
  rintro e w1 ⟨v,rfl,hh,hb1⟩
  obtain ⟨q,cap,rfl,hAb,hcap⟩:=hh.at
  obtain ⟨bb,ob,rfl,hbl,hcB⟩:=at_some hAb (by simp)
  have hcl:∀ j (hj:j < C.length),w1.cell? ⟨bb,ob + j,none⟩ = some (.int .u8 (C[j].toNat:Int)):=fun j hj => by
    rw [hcB j (by simp;omega),List.getElem_append_left hj]
  have e0:w1.cell? ⟨bb,ob + C.length,none⟩ = some (.int .u8 (d0.toNat:Int)):=by have:=hcB C.length (by simp);simpa using this
  have e1:w1.cell? ⟨bb,ob + (C.length + 1),none⟩ = some (.int .u8 (d1.toNat:Int)):=by have:=hcB (C.length + 1) (by simp);simpa using this
  have e2:w1.cell? ⟨bb,ob + (C.length + 2),none⟩ = some (.int .u8 (d2.toNat:Int)):=by have:=hcB (C.length + 2) (by simp);simpa using this
  have e3:w1.cell? ⟨bb,ob + (C.length + 3),none⟩ = some (.int .u8 (d3.toNat:Int)):=by have:=hcB (C.length + 3) (by simp);simpa using this
  have HCA:Hid (At w1 (some ⟨bb,ob,none⟩) C):=.inr ⟨bb,ob,rfl,hbl,hcl⟩
  have HB1:=Lib.hid (HB0.out.trans (hb1.mono HB0.out.size))
  have hK1:=(hb1.block _ (by omega)).trans hK0
  have HK1:=Lib.hid hK1
  obtain ⟨⟨x0,t0⟩,⟨x1,t1⟩,⟨x2,t2⟩,⟨x3,t3⟩,⟨x4,t4⟩,⟨x5,t5⟩,⟨x6,t6⟩,⟨x7,t7⟩,⟨x8,t8⟩,⟨x9,t9⟩,⟨x10,t10⟩⟩:=free11 hK1
  have HS:=Lib.hid (refSum_any (some ⟨bb,ob,none⟩) cap C (by omega) w1 HCA.out)
  have hlen:(C ++ [d0,d1,d2,d3]).length = C.length + 4:=by simp
  rw [hlen] at hcap ⊢
  have hn5:¬ ((C.length:Int) + 4 < 5):=by omega
  clear hh hAb hcB hb1 hK0 hK1 HU HW0 hlen
  go_wp2_with fail
  refine HS.out.mono ?_
  rintro e w2 ⟨rfl,hw⟩
  rw [hw]
  clear hw w2 HS
  have HSl:Hid (Crc.sum C < 4294967296):=Crc.update_lt (by omega) C
  obtain ⟨S,hS⟩:∃ S,S = Crc.sum C:=⟨_,rfl⟩
  rw [← hS] at HSl ⊢
  have HSe:=Lib.hid hS
  clear hS
  have hcell:∀ i (hi:i < 4),w1.cell? ⟨bb,ob + (C.length + i),none⟩ = some (.int .u8 (([d0,d1,d2,d3]:List UInt8)[i].toNat:Int)):=fun i hi => by
    match i,hi with
    | 0,_ => exact e0
    | 1,_ => exact e1
    | 2,_ => exact e2
    | 3,_ => exact e3
  have HCell:=Lib.hid hcell
  clear e0 e1 e2 e3 hcell
  go_wp2
  go_loopw [7,8] (fun v7 v8 wr => ∃ i s:Nat,i ≤ 4 ∧ v8 = .int .i64 i ∧ v7 = .int .u32 s ∧ s < 4294967296 ∧ wr = w1 ∧ Hid (s = S / 256 ^ i ∧ ∀ j (hj:j < 4),j < i → ([d0,d1,d2,d3]:List UInt8)[j].toNat = S / 256 ^ j % 256)) (fun _ v8 _ => 4 - (intOf v8).toNat)
  case atStart => exact ⟨0,S,by omega,rfl,rfl,HSl.out,rfl,by simp,fun j _ hj => by omega⟩
  case round =>
    obtain ⟨i,s,hi,rfl,rfl,hs,rfl,HI⟩:=hrel
    by_cases hlt:i < 4
    · have hlt':(i:Int) < 4:=by omega
      have hci:=HCell.out i hlt
      obtain ⟨dd,hdd⟩:∃ dd,dd = ([d0,d1,d2,d3]:List UInt8)[i]:=⟨_,rfl⟩
      rw [← hdd] at hci
      by_cases heq:dd.toNat = s % 256
      · have hb:((dd.toNat:Int) != (s:Int) % 256) = false:=by rw [heq];simp
        rw [heq] at hci
        have HI2:Hid (s / 256 = S / 256 ^ (i + 1) ∧ ∀ j (hj:j < 4),j < i + 1 → ([d0,d1,d2,d3]:List UInt8)[j].toNat = S / 256 ^ j % 256):=by
          refine ⟨?_,fun j hj hji => ?_⟩
          · rw [HI.out.1,Nat.div_div_eq_div_mul,Nat.pow_succ]
          · by_cases hje:j = i
            · subst hje
              rw [← hdd,heq,HI.out.1]
            · exact HI.out.2 j hj (by omega)
        clear HI hdd
        go_wp2
        go_roundw
        case rel => exact ⟨i + 1,s / 256,by omega,by go_num,by go_num,by omega,trivial,HI2.out⟩
        case measure => simp [intOf];omega
      · have hb:((dd.toNat:Int) != (s:Int) % 256) = true:=by rw [bne_iff_ne];omega
        have HR2:Hid (R = .error 120):=by
          show _ = _
          rw [HR.out,Fr.dec,HOp.out,← HSe.out,if_neg]
          intro hc
          exact heq (by rw [hdd,(le4_iff d0 d1 d2 d3 S).1 hc i hlt,HI.out.1])
        have hz1:=HB1.out.size
        clear HI hdd HR
        go_wp2
        refine bodyPost_ret (results_row2 rfl _ _ w.heap.size _ _ _ _ rfl (set11_block HK1.out _ _ _ _ _ _ _ _ _ _ _) Tryz.underlying30 rfl (by kernel_rfl)) rfl ?_
        rw [HR2.out]
        exact ⟨rfl,HB1.out.trans ((set11_aside wr w.heap.size _ _ _ _ _ _ _ _ _ _ _).below hz1 (fun k hk => by omega))⟩
    · have hii:i = 4:=by omega
      subst hii
      have HR1:Hid (R = Fr.rdF (C.headD 0).toNat C.tail):=by
        show _ = _
        rw [HR.out,Fr.dec,HOp.out,← HSe.out,if_pos ((le4_iff d0 d1 d2 d3 S).2 (fun j hj => HI.out.2 j hj (by omega)))]
      have hz1:=HB1.out.size
      have c0:=hcl 0 (by omega)
      obtain ⟨k0,hk0⟩:∃ k0,k0 = C[0]'(by omega):=⟨_,rfl⟩
      rw [← hk0] at c0
      have e1:C.headD 0 = k0:=by rw [hk0];cases C with | nil => simp at hC | cons a b => rfl
      have e2:C.tail = C.drop 1:=by simp
      rw [e1,e2] at HR1
      rw [Nat.add_zero] at c0
      obtain ⟨kk,hkk⟩:∃ kk,kk = k0.toNat:=⟨_,rfl⟩
      have hkk2:kk < 256:=by rw [hkk];exact k0.toNat_lt
      rw [← hkk] at HR1 c0
      clear hk0 e1 e2 hkk
      clear HI HOp HSe HSl HR hcl HCell
      by_cases g1:kk = 1
      · have c1:wr.cell? ⟨bb,ob,none⟩ = some (.int .u8 1):=by rw [c0,g1];rfl
        have HR2:Hid (R = Fr.rdS (C.drop 1)):=by
          show _ = _
          rw [HR1.out,Fr.rdF,if_pos g1]
        obtain ⟨wa,hwa⟩:∃ wa,wa = wr.alloc (.cells #[.int .i64 2147483648] 2):=⟨_,rfl⟩
        have hba:Below wr.heap.size wr wa:=by rw [hwa];exact (Below.refl _ _).alloc (Nat.le_refl _) _
        have HWa:Hid (wr.alloc (.cells #[.int .i64 2147483648] 2) = wa):=by rw [hwa];exact rfl
        have hIa:Ints wa wr.heap.size (toI [2147483648]):=by rw [hwa];exact ints_at4 rfl rfl
        have HSm:=Lib.hid (refSome (some ⟨bb,ob,none⟩) cap C (by omega) 1 wr.heap.size hC [2147483648] (by simp) (by simp) wa (HCA.out.on hba) hIa)
        rw [nbs_one] at HSm
        have hKa:=(hba.block _ (lies_lt12 HK1.out)).trans HK1.out
        have HKa:=Lib.hid hKa
        have HBa:=Lib.hid (HB1.out.trans (hba.mono hz1))
        have HCa:=Lib.hid (HCA.out.on hba)
        have hza:=HBa.out.size
        have hNa:=lies_lt12 HKa.out
        clear c0 HR1 x0 x1 x2 x3 x4 x5 x6 x7 x8 x9 x10 t0 t1 t2 t3 t4 t5 t6 t7 t8 t9 t10 hwa hba hIa hKa HB1 HK1 HCA
        go_wp2_with fail
        rw [HWa.out]
        refine HSm.out.mono ?_
        rintro e w2 hsv
        cases hnb:Fr.nb 2147483648 (C.drop 1) with
        | error er =>
          rw [hnb] at hsv
          rcases hsv with ⟨er2,hns,rfl,hb2⟩ | ⟨ns,k,q,cp,hns,rfl,ho2,hb2⟩
          · have HR3:Hid (R = .error 5):=by
              show _ = _
              rw [HR2.out,Fr.rdS,hnb,← nb_err hnb]
            have hK2:=(hb2.block _ (lies_lt12 HKa.out)).trans HKa.out
            have HK2:=Lib.hid hK2
            have HB2:=Lib.hid (HBa.out.trans (hb2.mono hza))
            have hz2:=HB2.out.size
            obtain ⟨⟨x0,t0⟩,⟨x1,t1⟩,⟨x2,t2⟩,⟨x3,t3⟩,⟨x4,t4⟩,⟨x5,t5⟩,⟨x6,t6⟩,⟨x7,t7⟩,⟨x8,t8⟩,⟨x9,t9⟩,⟨x10,t10⟩⟩:=free11 hK2
            clear hb2 hK2 HSm HR2 hnb hns
            go_wp2
            refine bodyPost_ret (results_row2 rfl _ _ w.heap.size _ _ _ _ rfl (set11_block HK2.out _ _ _ _ _ _ _ _ _ _ _) Tryz.underlying30 rfl (by kernel_rfl)) rfl ?_
            rw [HR3.out]
            exact ⟨rfl,HB2.out.trans ((set11_aside w2 w.heap.size _ _ _ _ _ _ _ _ _ _ _).below hz2 (fun k hk => by omega))⟩
          · cases hns
        | ok nk =>
          obtain ⟨n,k⟩:=nk
          rw [hnb] at hsv
          rcases hsv with ⟨er2,hns,rfl,hb2⟩ | ⟨ns,k',q,cp,hns,rfl,ho2,hb2⟩
          · cases hns
          · simp only [Except.ok.injEq,Prod.mk.injEq] at hns
            obtain ⟨rfl,rfl⟩:=hns
            have hkl:1 + k ≤ C.length:=by
              have hn1:Fr.nbs [2147483648] (C.drop 1) = .ok ([n],k):=by rw [nbs_one,hnb]
              obtain ⟨-,-,r,e1,e2⟩:=Fr.nbs_ok _ _ _ _ hn1
              have:=congrArg List.length e1
              rw [List.length_append,List.length_drop,← e2] at this
              omega
            have hK2:=(hb2.block _ (lies_lt12 HKa.out)).trans HKa.out
            have HK2:=Lib.hid hK2
            have HB2:=Lib.hid (HBa.out.trans (hb2.mono hza))
            have hz2:=HB2.out.size
            obtain ⟨q',c',hq,-,hor⟩:=ho2.ints
            rcases hor with hnil | ⟨g,hg,hBg,hI2⟩
            · simp [toI] at hnil
            injection hq with hq1 hq2 hq3
            subst hq1
            subst hg
            have i0:w2.cell? ⟨g,0,none⟩ = some (.int .i64 (n:Nat)):=hI2.2 0 (by simp [toI])
            have hAC:=HCa.out.on hb2
            have HI2:=Lib.hid hI2
            have HR3:Hid (R = match Sch.read (C.drop (1 + k)) with | .error e => .error e | .ok s => .ok { Fr0 with kind:=1,number:=n,cols:=s }):=by
              show _ = _
              rw [HR2.out,Fr.rdS,hnb]
              simp only
              rw [List.drop_drop]
              cases Sch.read (List.drop (1 + k) C) <;> rfl
            clear hb2 HSm HCa HKa HBa ho2 hq2 hq3 hnb HR2
            obtain ⟨A,hA⟩:∃ A,A = 1 + k:=⟨_,rfl⟩
            rw [← hA] at hkl HR3 ⊢
            clear hA
            have HAt:Hid (At w2 (some ⟨bb,ob + A,none⟩) (C.drop A)):=by
              obtain ⟨b',o',hp',hb',hc'⟩:=at_some hAC (by omega)
              injection hp' with hp'
              injection hp' with e1 e2 _
              subst e1 e2
              exact .inr ⟨bb,ob + A,rfl,hb',cells_drop hc' A⟩
            have HD7:=Lib.hid (refDecode7 (some ⟨bb,ob + A,none⟩) (C.drop A) (cap - A) (by rw [List.length_drop];omega) (by rw [List.length_drop];omega) w2 HAt.out)
            rw [List.length_drop] at HD7
            have hne:¬ cap = A:=by omega
            have hAC':(A:Int) ≤ (C.length:Int):=by omega
            have HIl:=Lib.hid hI2.1
            clear hAC HAt hI2 hK2
            go_wp2_with fail
            refine HD7.out.mono ?_
            rintro e w3 hd
            cases hrd:Sch.read (C.drop A) with
            | error er =>
              rw [hrd] at hd HR3
              obtain ⟨rfl,hb3⟩:=hd
              have hez:((er:Int) != 0) = true:=by
                rw [bne_iff_ne]
                have:=Sch.read_ne hrd
                omega
              have hb4:Below w3.heap.size w3 (w3.alloc (.cells #[.slice none 0 0] 24)):=(Below.refl _ _).alloc (Nat.le_refl _) _
              have hK3:=(hb4.block _ (lies_lt12 ((hb3.block _ (lies_lt12 HK2.out)).trans HK2.out))).trans ((hb3.block _ (lies_lt12 HK2.out)).trans HK2.out)
              have HK3:=Lib.hid hK3
              have HB3:=Lib.hid (HB2.out.trans ((hb3.mono hz2).trans (hb4.mono (Nat.le_trans hz2 hb3.size))))
              have hz3:=HB3.out.size
              obtain ⟨⟨x0,t0⟩,⟨x1,t1⟩,⟨x2,t2⟩,⟨x3,t3⟩,⟨x4,t4⟩,⟨x5,t5⟩,⟨x6,t6⟩,⟨x7,t7⟩,⟨x8,t8⟩,⟨x9,t9⟩,⟨x10,t10⟩⟩:=free11 hK3
              clear hb3 hb4 hK3 HD7 hrd
              go_wp2
              refine bodyPost_ret (results_row2 rfl _ _ w.heap.size _ _ _ _ rfl (set11_block HK3.out _ _ _ _ _ _ _ _ _ _ _) Tryz.underlying30 rfl (by kernel_rfl)) rfl ?_
              rw [HR3.out]
              exact ⟨rfl,HB3.out.trans ((set11_aside _ w.heap.size _ _ _ _ _ _ _ _ _ _ _).below hz3 (fun k hk => by omega))⟩
            | ok sl =>
              rw [hrd] at hd HR3
              obtain ⟨u,rfl,ho3,hb3⟩:=hd
              obtain ⟨v,us,Fs,hu,hbu,hl7⟩:=ho3.out
              subst hu
              obtain ⟨sp,sc,hv,hsc,-⟩:=hbu.cols hl7
              subst hv
              have hb4:Below w3.heap.size w3 (w3.alloc (.cells #[.slice sp sl.length sc] 24)):=(Below.refl _ _).alloc (Nat.le_refl _) _
              have hK3:=(hb4.block _ (lies_lt12 ((hb3.block _ (lies_lt12 HK2.out)).trans HK2.out))).trans ((hb3.block _ (lies_lt12 HK2.out)).trans HK2.out)
              have HK3:=Lib.hid hK3
              have HB3:=Lib.hid (HB2.out.trans ((hb3.mono hz2).trans (hb4.mono (Nat.le_trans hz2 hb3.size))))
              have hz3:=HB3.out.size
              obtain ⟨⟨x0,t0⟩,⟨x1,t1⟩,⟨x2,t2⟩,⟨x3,t3⟩,⟨x4,t4⟩,⟨x5,t5⟩,⟨x6,t6⟩,⟨x7,t7⟩,⟨x8,t8⟩,⟨x9,t9⟩,⟨x10,t10⟩⟩:=free11 hK3
              have j0:(w3.alloc (.cells #[.slice sp sl.length sc] 24)).cell? ⟨g,0,none⟩ = some (.int .i64 (n:Nat)):=by
                rw [hb4.cell (p:=⟨g,0,none⟩) (Nat.lt_of_lt_of_le HIl.out hb3.size),hb3.cell (p:=⟨g,0,none⟩) HIl.out]
                exact i0
              have HO3:=Lib.hid (sown_aside ho3 (aside_new hb4 (fun _ => False)) (fun _ _ _ hc => hc))
              have hNN:¬ w3.heap.size = w.heap.size:=by have:=hb3.size;have:=lies_lt12 HK2.out;omega
              have hz23:=hb3.size
              have HN2:=Lib.hid (lies_lt12 HK2.out)
              clear hb3 hb4 hK3 HD7 hrd ho3 hbu i0
              have hgN:¬ w.heap.size = g:=by omega
              have hNN2:¬ w.heap.size = w3.heap.size:=by omega
              have j1:(w3.alloc (.cells #[.slice sp sl.length sc] 24)).cell? ⟨w3.heap.size,0,none⟩ = some (.slice sp sl.length sc):=by rw [World.cell?_alloc_new];rfl
              go_wp2_with fail
              go_region_held3 (fun w' => w'.cell? ⟨g,0,none⟩ = some (.int .i64 (n:Nat)) ∧ w'.cell? ⟨w3.heap.size,0,none⟩ = some (.slice sp sl.length sc)) (go_keep) (fail)
              go_wp2
              obtain ⟨W5,hW5⟩:∃ W5,W5 = (set11 (w3.alloc (.cells #[.slice sp sl.length sc] 24)) w.heap.size (.int .i64 1) (.int .i64 (n:Nat)) (.slice sp sl.length sc) (.int .i64 0) (.int .i64 0) (.int .i64 0) (.slice none 0 0) (.int .i64 0) (.int .i64 0) (.int .i64 0) (.slice none 0 0)).drew:=⟨_,rfl⟩
              have hsa:Aside (fun i => i = w.heap.size) (w3.alloc (.cells #[.slice sp sl.length sc] 24)) W5:=by rw [hW5];exact (set11_aside _ w.heap.size (.int .i64 1) (.int .i64 (n:Nat)) (.slice sp sl.length sc) (.int .i64 0) (.int .i64 0) (.int .i64 0) (.slice none 0 0) (.int .i64 0) (.int .i64 0) (.int .i64 0) (.slice none 0 0)).drew
              have hsb:W5.heap[w.heap.size]? = some (.cells #[.int .i64 1,.int .i64 (n:Nat),.slice sp sl.length sc,.int .i64 0,.int .i64 0,.int .i64 0,.slice none 0 0,.int .i64 0,.int .i64 0,.int .i64 0,.slice none 0 0] 30 (0,0)):=by rw [hW5,heap_drew12];exact set11_block HK3.out (.int .i64 1) (.int .i64 (n:Nat)) (.slice sp sl.length sc) (.int .i64 0) (.int .i64 0) (.int .i64 0) (.slice none 0 0) (.int .i64 0) (.int .i64 0) (.int .i64 0) (.slice none 0 0)
              unfold set11 at hW5
              rw [← hW5]
              clear hW5
              refine bodyPost_ret (results_row2 rfl _ _ w.heap.size _ _ _ _ rfl hsb Tryz.underlying30 rfl (by kernel_rfl)) rfl ?_
              rw [HR3.out]
              have hdec:Fr.dec l = .ok { Fr0 with kind:=1,number:=n,cols:=sl }:=by rw [← HRd.out,HR3.out]
              have hN2:=HN2.out
              exact ⟨_,rfl,fown_sch (f:={ Fr0 with kind:=1,number:=n,cols:=sl }) (Fr.dec_ok hdec).2.2.1 rfl (sown_aside HO3.out hsa (fun k hk _ hc => by omega)) hz2,HB3.out.trans (hsa.below hz3 (fun k hk => by omega))⟩
      by_cases g2:kk = 2
      · have c1:wr.cell? ⟨bb,ob,none⟩ = some (.int .u8 2):=by rw [c0,g2];rfl
        have HR2:Hid (R = Fr.rdD (C.drop 1)):=by
          show _ = _
          rw [HR1.out,Fr.rdF,if_neg g1,if_pos g2]
        obtain ⟨wa,hwa⟩:∃ wa,wa = wr.alloc (.cells #[.int .i64 2147483648,.int .i64 1099511627776,.int .i64 1099511627776,.int .i64 65] 2):=⟨_,rfl⟩
        have hba:Below wr.heap.size wr wa:=by rw [hwa];exact (Below.refl _ _).alloc (Nat.le_refl _) _
        have HWa:Hid (wr.alloc (.cells #[.int .i64 2147483648,.int .i64 1099511627776,.int .i64 1099511627776,.int .i64 65] 2) = wa):=by rw [hwa];exact rfl
        have hIa:Ints wa wr.heap.size (toI [2147483648,1099511627776,1099511627776,65]):=by rw [hwa];exact ints_at4 rfl rfl
        have HSm:=Lib.hid (refSome (some ⟨bb,ob,none⟩) cap C (by omega) 1 wr.heap.size hC [2147483648,1099511627776,1099511627776,65] (by simp) (by simp) wa (HCA.out.on hba) hIa)
        have hKa:=(hba.block _ (lies_lt12 HK1.out)).trans HK1.out
        have HKa:=Lib.hid hKa
        have HBa:=Lib.hid (HB1.out.trans (hba.mono hz1))
        have HCa:=Lib.hid (HCA.out.on hba)
        have hza:=HBa.out.size
        have hNa:=lies_lt12 HKa.out
        clear c0 HR1 x0 x1 x2 x3 x4 x5 x6 x7 x8 x9 x10 t0 t1 t2 t3 t4 t5 t6 t7 t8 t9 t10 hwa hba hIa hKa HB1 HK1 HCA
        go_wp2_with fail
        rw [HWa.out]
        refine HSm.out.mono ?_
        rintro e w2 (⟨er,hns,rfl,hb2⟩ | ⟨ns,k,q,cp,hns,rfl,ho2,hb2⟩)
        · have HR3:Hid (R = .error 5):=by
            show _ = _
            rw [HR2.out,Fr.rdD,hns,← nbs_err _ hns]
          have hK2:=(hb2.block _ (lies_lt12 HKa.out)).trans HKa.out
          have HK2:=Lib.hid hK2
          have HB2:=Lib.hid (HBa.out.trans (hb2.mono hza))
          have hz2:=HB2.out.size
          obtain ⟨⟨x0,t0⟩,⟨x1,t1⟩,⟨x2,t2⟩,⟨x3,t3⟩,⟨x4,t4⟩,⟨x5,t5⟩,⟨x6,t6⟩,⟨x7,t7⟩,⟨x8,t8⟩,⟨x9,t9⟩,⟨x10,t10⟩⟩:=free11 hK2
          clear hb2 hK2 HSm HR2 hns
          go_wp2
          refine bodyPost_ret (results_row2 rfl _ _ w.heap.size _ _ _ _ rfl (set11_block HK2.out _ _ _ _ _ _ _ _ _ _ _) Tryz.underlying30 rfl (by kernel_rfl)) rfl ?_
          rw [HR3.out]
          exact ⟨rfl,HB2.out.trans ((set11_aside w2 w.heap.size _ _ _ _ _ _ _ _ _ _ _).below hz2 (fun k hk => by omega))⟩
        · have hn4:=Fr.nbs_ok _ _ _ _ hns
          have hl4:ns.length = 4:=hn4.1
          match ns,hl4 with
          | [n0,n1,n2,n3],_ =>
          have hkl:1 + k ≤ C.length:=by
            obtain ⟨-,-,r,e1,e2⟩:=hn4
            have:=congrArg List.length e1
            rw [List.length_append,List.length_drop,← e2] at this
            omega
          have hK2:=(hb2.block _ (lies_lt12 HKa.out)).trans HKa.out
          have HK2:=Lib.hid hK2
          have HB2:=Lib.hid (HBa.out.trans (hb2.mono hza))
          have hz2:=HB2.out.size
          obtain ⟨q',c',hq,-,hor⟩:=ho2.ints
          rcases hor with hnil | ⟨g,hg,hBg,hI2⟩
          · simp [toI] at hnil
          injection hq with hq1 hq2 hq3
          subst hq1
          subst hg
          have i0:w2.cell? ⟨g,0,none⟩ = some (.int .i64 (n0:Nat)):=hI2.2 0 (by simp [toI])
          have i1:w2.cell? ⟨g,1,none⟩ = some (.int .i64 (n1:Nat)):=hI2.2 1 (by simp [toI])
          have i2:w2.cell? ⟨g,2,none⟩ = some (.int .i64 (n2:Nat)):=hI2.2 2 (by simp [toI])
          have i3:w2.cell? ⟨g,3,none⟩ = some (.int .i64 (n3:Nat)):=hI2.2 3 (by simp [toI])
          have HIl:=Lib.hid hI2.1
          have hAC:=HCa.out.on hb2
          by_cases hn3:n3 < 1
          · have HR3:Hid (R = .error 5):=by
              show _ = _
              rw [HR2.out,Fr.rdD,hns]
              simp only [List.getD_cons_zero,List.getD_cons_succ]
              rw [if_pos hn3]
            have hd3:decide ((n3:Int) < 1) = true:=decide_eq_true (by omega)
            obtain ⟨⟨x0,t0⟩,⟨x1,t1⟩,⟨x2,t2⟩,⟨x3,t3⟩,⟨x4,t4⟩,⟨x5,t5⟩,⟨x6,t6⟩,⟨x7,t7⟩,⟨x8,t8⟩,⟨x9,t9⟩,⟨x10,t10⟩⟩:=free11 hK2
            clear hb2 hK2 HSm HR2 hns hn4 hl4 ho2 hI2 hAC
            go_wp2
            refine bodyPost_ret (results_row2 rfl _ _ w.heap.size _ _ _ _ rfl (set11_block HK2.out _ _ _ _ _ _ _ _ _ _ _) Tryz.underlying30 rfl (by kernel_rfl)) rfl ?_
            rw [HR3.out]
            exact ⟨rfl,HB2.out.trans ((set11_aside w2 w.heap.size _ _ _ _ _ _ _ _ _ _ _).below hz2 (fun k hk => by omega))⟩
          · have HR3:Hid (R = .ok { Fr0 with kind:=2,number:=(n0:Nat),seq:=(n1:Nat),first:=(n2:Nat),rows:=(n3:Nat),block:=C.drop (1 + k) }):=by
              show _ = _
              rw [HR2.out,Fr.rdD,hns]
              simp only [List.getD_cons_zero,List.getD_cons_succ]
              rw [if_neg hn3,List.drop_drop]
            have hd3:decide ((n3:Int) < 1) = false:=decide_eq_false (by omega)
            clear hb2 HSm HCa HKa HBa ho2 hq2 hq3 hns hn4 hl4 HR2
            obtain ⟨A,hA⟩:∃ A,A = 1 + k:=⟨_,rfl⟩
            rw [← hA] at hkl HR3 ⊢
            clear hA
            have HAt:Hid (At w2 (some ⟨bb,ob + A,none⟩) (C.drop A)):=by
              obtain ⟨b',o',hp',hb',hc'⟩:=at_some hAC (by omega)
              injection hp' with hp'
              injection hp' with e1 e2 _
              subst e1 e2
              exact .inr ⟨bb,ob + A,rfl,hb',cells_drop hc' A⟩
            have hne:¬ cap = A:=by omega
            have hAC':(A:Int) ≤ (C.length:Int):=by omega
            have HDl:Hid ((C.drop A).length = C.length - A):=by show _ = _;rw [List.length_drop]
            have HN2:=Lib.hid (lies_lt12 HK2.out)
            have hgN:¬ w.heap.size = g:=by omega
            clear hAC hI2 hK2
            go_wp2_with (first
              | (at_builtin
                 refine wp_ontoL (B:=w2.heap.size) (xs:=[]) (v:=.slice none 0 0) (l:=C.drop A) (has_nil _ _) HAt.out (by rw [HDl.out];simp;omega) (Nat.le_refl _) rfl rfl rfl rfl (by rw [HDl.out];rfl) ?_
                 intro ys bq bc W HY hh ha _
                 have HB3:=Lib.hid (ha.below (B:=w2.heap.size) (Nat.le_refl _) (fun k _ hk => by cases hk))
                 have HH:=Lib.hid hh
                 have hK3:=(HB3.out.block _ HN2.out).trans HK2.out
                 have HK3:=Lib.hid hK3
                 obtain ⟨⟨x0,t0⟩,⟨x1,t1⟩,⟨x2,t2⟩,⟨x3,t3⟩,⟨x4,t4⟩,⟨x5,t5⟩,⟨x6,t6⟩,⟨x7,t7⟩,⟨x8,t8⟩,⟨x9,t9⟩,⟨x10,t10⟩⟩:=free11 hK3
                 have j0:W.cell? ⟨g,0,none⟩ = some (.int .i64 (n0:Nat)):=(HB3.out.cell (p:=⟨g,0,none⟩) HIl.out).trans i0
                 have j1:W.cell? ⟨g,1,none⟩ = some (.int .i64 (n1:Nat)):=(HB3.out.cell (p:=⟨g,1,none⟩) HIl.out).trans i1
                 have j2:W.cell? ⟨g,2,none⟩ = some (.int .i64 (n2:Nat)):=(HB3.out.cell (p:=⟨g,2,none⟩) HIl.out).trans i2
                 have j3:W.cell? ⟨g,3,none⟩ = some (.int .i64 (n3:Nat)):=(HB3.out.cell (p:=⟨g,3,none⟩) HIl.out).trans i3
                 have hz3:=HB3.out.size
                 clear hh ha hK3 i0 i1 i2 i3)
              | fail)
            go_region_held3 (fun w' => w'.cell? ⟨g,0,none⟩ = some (.int .i64 (n0:Nat)) ∧ w'.cell? ⟨g,1,none⟩ = some (.int .i64 (n1:Nat)) ∧ w'.cell? ⟨g,2,none⟩ = some (.int .i64 (n2:Nat)) ∧ w'.cell? ⟨g,3,none⟩ = some (.int .i64 (n3:Nat))) (go_keep) (fail)
            go_wp2
            have hye:ys = C.drop A:=HY.out
            obtain ⟨W5,hW5⟩:∃ W5,W5 = (set11 W w.heap.size (.int .i64 2) (.int .i64 (n0:Nat)) (.slice none 0 0) (.int .i64 (n1:Nat)) (.int .i64 (n2:Nat)) (.int .i64 (n3:Nat)) (.slice bq ys.length bc) (.int .i64 0) (.int .i64 0) (.int .i64 0) (.slice none 0 0)).drew:=⟨_,rfl⟩
            have hsa:Aside (fun i => i = w.heap.size) W W5:=by rw [hW5];exact (set11_aside _ w.heap.size (.int .i64 2) (.int .i64 (n0:Nat)) (.slice none 0 0) (.int .i64 (n1:Nat)) (.int .i64 (n2:Nat)) (.int .i64 (n3:Nat)) (.slice bq ys.length bc) (.int .i64 0) (.int .i64 0) (.int .i64 0) (.slice none 0 0)).drew
            have hsb:W5.heap[w.heap.size]? = some (.cells #[.int .i64 2,.int .i64 (n0:Nat),.slice none 0 0,.int .i64 (n1:Nat),.int .i64 (n2:Nat),.int .i64 (n3:Nat),.slice bq ys.length bc,.int .i64 0,.int .i64 0,.int .i64 0,.slice none 0 0] 30 (0,0)):=by rw [hW5,heap_drew12];exact set11_block HK3.out (.int .i64 2) (.int .i64 (n0:Nat)) (.slice none 0 0) (.int .i64 (n1:Nat)) (.int .i64 (n2:Nat)) (.int .i64 (n3:Nat)) (.slice bq ys.length bc) (.int .i64 0) (.int .i64 0) (.int .i64 0) (.slice none 0 0)
            unfold set11 at hW5
            rw [← hW5]
            clear hW5
            refine bodyPost_ret (results_row2 rfl _ _ w.heap.size _ _ _ _ rfl hsb Tryz.underlying30 rfl (by kernel_rfl)) rfl ?_
            have hR4:=HR3.out
            rw [← hye] at hR4
            rw [hR4]
            have hdec:Fr.dec l = .ok { Fr0 with kind:=2,number:=(n0:Nat),seq:=(n1:Nat),first:=(n2:Nat),rows:=(n3:Nat),block:=ys }:=by rw [← HRd.out,hR4]
            have hN2:=HN2.out
            have hyl:ys.length ≤ 2200:=by rw [hye,HDl.out];omega
            exact ⟨_,rfl,fown_dat (f:={ Fr0 with kind:=2,number:=(n0:Nat),seq:=(n1:Nat),first:=(n2:Nat),rows:=(n3:Nat),block:=ys }) (Fr.dec_ok hdec).2.2.1 rfl (HH.out.aside hsa (fun k hk hc => by have:=(HH.out.lt k hk).1;omega)) hyl hz2,HB2.out.trans ((HB3.out.mono hz2).trans (hsa.below (Nat.le_trans hz2 hz3) (fun k hk => by omega)))⟩
      by_cases g3:kk = 3
      · have c1:wr.cell? ⟨bb,ob,none⟩ = some (.int .u8 3):=by rw [c0,g3];rfl
        have HE:=Lib.hid (refEntries (some ⟨bb,ob,none⟩) cap C hC2 hC wr HCA.out)
        have HR2:Hid (R = Fr.rdI (C.drop 1)):=by
          show _ = _
          rw [HR1.out,Fr.rdF,if_neg g1,if_neg g2,if_pos g3]
        clear c0 HR1 x0 x1 x2 x3 x4 x5 x6 x7 x8 x9 x10 t0 t1 t2 t3 t4 t5 t6 t7 t8 t9 t10
        go_wp2_with fail
        refine HE.out.mono ?_
        rintro e w2 hd
        cases hrd:Fr.rdI (C.drop 1) with
        | error er =>
          rw [hrd] at hd
          obtain ⟨rfl,hb2⟩:=hd
          have HR3:Hid (R = .error er):=by show _ = _;rw [HR2.out,hrd]
          have hK2:=(hb2.block _ (lies_lt12 HK1.out)).trans HK1.out
          have HK2:=Lib.hid hK2
          have HB2:=Lib.hid (HB1.out.trans (hb2.mono hz1))
          have hz2:=HB2.out.size
          obtain ⟨⟨x0,t0⟩,⟨x1,t1⟩,⟨x2,t2⟩,⟨x3,t3⟩,⟨x4,t4⟩,⟨x5,t5⟩,⟨x6,t6⟩,⟨x7,t7⟩,⟨x8,t8⟩,⟨x9,t9⟩,⟨x10,t10⟩⟩:=free11 hK2
          clear hb2 hK2 HE HR2 hrd
          go_wp2
          refine bodyPost_ret (results_row2 rfl _ _ w.heap.size _ _ _ _ rfl (set11_block HK2.out _ _ _ _ _ _ _ _ _ _ _) Tryz.underlying30 rfl (by kernel_rfl)) rfl ?_
          rw [HR3.out]
          exact ⟨rfl,HB2.out.trans ((set11_aside w2 w.heap.size _ _ _ _ _ _ _ _ _ _ _).below hz2 (fun k hk => by omega))⟩
        | ok f =>
          rw [hrd] at hd
          obtain ⟨u,rfl,ho,hb2⟩:=hd
          have HR3:Hid (R = .ok f):=by show _ = _;rw [HR2.out,hrd]
          have hK2:=(hb2.block _ (lies_lt12 HK1.out)).trans HK1.out
          have HK2:=Lib.hid hK2
          have HB2:=Lib.hid (HB1.out.trans (hb2.mono hz1))
          have hz2:=HB2.out.size
          have HNl:=Lib.hid (lies_lt12 HK1.out)
          obtain ⟨⟨x0,t0⟩,⟨x1,t1⟩,⟨x2,t2⟩,⟨x3,t3⟩,⟨x4,t4⟩,⟨x5,t5⟩,⟨x6,t6⟩,⟨x7,t7⟩,⟨x8,t8⟩,⟨x9,t9⟩,⟨x10,t10⟩⟩:=free11 hK2
          have HO:=Lib.hid ho
          obtain ⟨sp,sc,bp,bc,ep,ec,hu,-⟩:=ho.out
          subst hu
          clear hb2 hK2 HE HR2 hrd ho
          unfold cells11 at HO ⊢
          go_wp2
          refine bodyPost_ret (results_row2 rfl _ _ w.heap.size _ _ _ _ rfl (set11_block HK2.out _ _ _ _ _ _ _ _ _ _ _) Tryz.underlying30 rfl (by kernel_rfl)) rfl ?_
          rw [HR3.out]
          have hNl:=HNl.out
          have hsa:=set11_aside w2 w.heap.size (.int .i64 f.kind) (.int .i64 f.number) (.slice sp f.cols.length sc) (.int .i64 f.seq) (.int .i64 f.first) (.int .i64 f.rows) (.slice bp f.block.length bc) (.int .i64 f.index.at_) (.int .i64 f.index.frames) (.int .i64 f.index.rows) (.slice ep f.index.entries.length ec)
          exact ⟨_,rfl,(HO.out.aside hsa (fun k hk _ hc => by omega)).low hz1,HB2.out.trans (hsa.below hz2 (fun k hk => by omega))⟩
      · have b1:((kk:Int) == 1) = false:=by rw [beq_eq_false_iff_ne];omega
        have b2:((kk:Int) == 2) = false:=by rw [beq_eq_false_iff_ne];omega
        have b3:((kk:Int) == 3) = false:=by rw [beq_eq_false_iff_ne];omega
        have HR2:Hid (R = .error 60):=by
          show _ = _
          rw [HR1.out,Fr.rdF,if_neg g1,if_neg g2,if_neg g3]
        clear HR1
        go_wp2
        refine bodyPost_ret (results_row2 rfl _ _ w.heap.size _ _ _ _ rfl (set11_block HK1.out _ _ _ _ _ _ _ _ _ _ _) Tryz.underlying30 rfl (by kernel_rfl)) rfl ?_
        rw [HR2.out]
        exact ⟨rfl,HB1.out.trans ((set11_aside wr w.heap.size _ _ _ _ _ _ _ _ _ _ _).below hz1 (fun k hk => by omega))⟩
end Go.Proofs.YtclhbhhlddbocaaGreatDoor
namespace Go.Proofs.YtclhbhhlddbocaaGreatDoor
open Go.RowKit
theorem refDec_long (p:Option Addr) (c:Nat) (l:List UInt8) (hl:2200 < l.length) (hl2:l.length ≤ 140737488351232) (w:World) :
  Calls Tryz.prog 70 #[.slice p l.length c] w (DecF w (.error 2)):=by
 have hnl:(2200:Int) < (l.length:Int):=by omega
 go_enter Tryz.func70,Tryz.ntmps70
 go_wp2
 refine bodyPost_ret (results_row2 rfl _ _ w.heap.size _ _ _ _ rfl (blk_new w _) Tryz.underlying30 rfl (by kernel_rfl)) rfl ?_
 exact ⟨rfl,(Below.refl _ _).alloc (Nat.le_refl _) _⟩
theorem refDec_short (p:Option Addr) (c:Nat) (l:List UInt8) (hl:l.length ≤ 2200) (er:Nat) (body:List UInt8) (hu:Cob.un l = (er,body)) (w:World) (h:At w p l) (R:Nat) (hR:R = if er ≠ 0 then er else 30) (h5:er = 0 → body.length < 5) :
  Calls Tryz.prog 70 #[.slice p l.length c] w (DecF w (.error R)):=by
 obtain ⟨w0,hw0⟩:∃ w0,w0 = w.alloc (.cells #[.int .i64 0,.int .i64 0,.slice none 0 0,.int .i64 0,.int .i64 0,.int .i64 0,.slice none 0 0,.int .i64 0,.int .i64 0,.int .i64 0,.slice none 0 0] 30):=⟨_,rfl⟩
 have hz0:w0.heap.size = w.heap.size + 1:=by rw [hw0];simp
 have HB0:Hid (Below w.heap.size w w0):=by rw [hw0];exact (Below.refl _ _).alloc (Nat.le_refl _) _
 have hK0:w0.heap[w.heap.size]? = some (.cells #[.int .i64 0,.int .i64 0,.slice none 0 0,.int .i64 0,.int .i64 0,.int .i64 0,.slice none 0 0,.int .i64 0,.int .i64 0,.int .i64 0,.slice none 0 0] 30 (0,0)):=by rw [hw0];exact blk_new w _
 have HW0:Hid (w.alloc (.cells #[.int .i64 0,.int .i64 0,.slice none 0 0,.int .i64 0,.int .i64 0,.int .i64 0,.slice none 0 0,.int .i64 0,.int .i64 0,.int .i64 0,.slice none 0 0] 30) = w0):=by rw [hw0];exact rfl
 have HU:=Lib.hid (refUnstuff_any p c l (by omega) w0 (h.on HB0.out))
 rw [hu] at HU
 simp only at HU
 have hnl:¬ (2200:Int) < (l.length:Int):=by omega
 have HRr:=Lib.hid hR
 clear hw0 h hu hR
 go_enter Tryz.func70,Tryz.ntmps70
 go_wp2_with fail
 rw [HW0.out]
 refine HU.out.mono ?_
 rintro e w1 ⟨v,rfl,hh,hb1⟩
 obtain ⟨q,cap,rfl,-,-⟩:=hh.at
 have HB1:=Lib.hid (HB0.out.trans (hb1.mono HB0.out.size))
 have hK1:=(hb1.block _ (by omega)).trans hK0
 have HK1:=Lib.hid hK1
 have hz1:=HB1.out.size
 obtain ⟨⟨x0,t0⟩,⟨x1,t1⟩,⟨x2,t2⟩,⟨x3,t3⟩,⟨x4,t4⟩,⟨x5,t5⟩,⟨x6,t6⟩,⟨x7,t7⟩,⟨x8,t8⟩,⟨x9,t9⟩,⟨x10,t10⟩⟩:=free11 hK1
 clear hh hb1 hK0 hK1 HU HW0
 by_cases he:er = 0
 ·subst he
  have hlt:(body.length:Int) < 5:=by have:=h5 rfl;omega
  have HR2:Hid (R = 30):=by show _ = _;rw [HRr.out];simp
  clear h5
  go_wp2
  refine bodyPost_ret (results_row2 rfl _ _ w.heap.size _ _ _ _ rfl (set11_block HK1.out _ _ _ _ _ _ _ _ _ _ _) Tryz.underlying30 rfl (by kernel_rfl)) rfl ?_
  rw [HR2.out]
  exact ⟨rfl,HB1.out.trans ((set11_aside w1 w.heap.size _ _ _ _ _ _ _ _ _ _ _).below hz1 (fun k hk => by omega))⟩
 ·have hez:((er:Int) != 0) = true:=by rw [bne_iff_ne];omega
  have HR2:Hid (R = er):=by show _ = _;rw [HRr.out,if_pos he]
  clear h5
  go_wp2
  refine bodyPost_ret (results_row2 rfl _ _ w.heap.size _ _ _ _ rfl (set11_block HK1.out _ _ _ _ _ _ _ _ _ _ _) Tryz.underlying30 rfl (by kernel_rfl)) rfl ?_
  rw [HR2.out]
  exact ⟨rfl,HB1.out.trans ((set11_aside w1 w.heap.size _ _ _ _ _ _ _ _ _ _ _).below hz1 (fun k hk => by omega))⟩
theorem refDecode12 (p:Option Addr) (c:Nat) (l:List UInt8) (hl2:l.length ≤ 140737488351232) (w:World) (h:At w p l) :
  Calls Tryz.prog 70 #[.slice p l.length c] w (DecF w (Fr.dec l)):=by
 by_cases hl:2200 < l.length
 ·have e:Fr.dec l = .error 2:=by unfold Fr.dec Fr.open_;rw [if_pos hl]
  rw [e]
  exact refDec_long p c l hl hl2 w
 ·obtain ⟨er,body,hu⟩:∃ er body,Cob.un l = (er,body):=⟨_,_,rfl⟩
  by_cases he:er = 0
  ·subst he
   by_cases h5:body.length < 5
   ·have e:Fr.dec l = .error 30:=by unfold Fr.dec Fr.open_;rw [if_neg hl,hu];simp [h5]
    rw [e]
    exact refDec_short p c l (by omega) 0 body hu w h 30 (by simp) (fun _ => h5)
   ·obtain ⟨C,d0,d1,d2,d3,hb⟩:∃ C d0 d1 d2 d3,body = C ++ [d0,d1,d2,d3]:=by
     have hd:(body.drop (body.length - 4)).length = 4:=by rw [List.length_drop];omega
     match hx:body.drop (body.length - 4),hd with
     | [d0,d1,d2,d3],_ => exact ⟨body.take (body.length - 4),d0,d1,d2,d3,by rw [← hx,List.take_append_drop]⟩
    subst hb
    have hlen:=Cob.un_length l
    rw [hu] at hlen
    simp only [List.length_append,List.length_cons,List.length_nil] at hlen h5
    exact refDec_mid p c l (by omega) C d0 d1 d2 d3 hu (by omega) (by omega) w h
  ·have e:Fr.dec l = .error er:=by unfold Fr.dec Fr.open_;rw [if_neg hl,hu];simp [he]
   rw [e]
   exact refDec_short p c l (by omega) er body hu w h er (by rw [if_pos he]) (fun hc => absurd hc he)
end Go.Proofs.YtclhbhhlddbocaaGreatDoor
