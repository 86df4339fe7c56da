import Derived.Test.YtjpgbaiabmiifaaGreatDoorB33
import Derived.DeepKeys4
import Derived.Deep.OwnRows
set_option maxRecDepth 100000
set_option maxHeartbeats 4000000
namespace Go.Proofs.YtjpgbaiabmiifaaGreatDoor
section
open Go.RowKit
theorem jr {l s:List UInt8} {i:Nat} (hl:s.length ≤ l.length) (h:∀ j,j < i → l[j]? = s[j]?) (hi:i ≤ s.length) (hne:i = s.length ∨ l[i]? ≠ s[i]?):Blk.alike l s = i:=by
 have h1:=Blk.alike_ge l s i (by omega) hi h
 have h2:=(Blk.alike_le l s).2
 rcases hne with hne | hne
 ·omega
 ·rcases Nat.lt_or_ge i (Blk.alike l s) with h3 | h3
  ·exact absurd (Blk.alike_eq l s i h3) hne
  ·omega
theorem vF (l s:List UInt8) (p q:Option Addr) (c d:Nat) (w:World) (hl:s.length ≤ l.length) (hs:s.length ≤ 255) (hlb:l.length ≤ 2048) (hp:At w p l) (hq:At w q s) :
  Calls Tryz.prog 94 #[.slice p l.length c,.slice q s.length d] w fun e w' => e = .returned (.int .i64 (Blk.alike l s:Nat)) ∧ w' = w:=by
 by_cases h0:s.length = 0
 ·have e0:Blk.alike l s = 0:=by have:=(Blk.alike_le l s).2;omega
  rw [h0,e0]
  clear e0 hs
  go_enter Tryz.func94,Tryz.ntmps94
  go_wp2_with fail
  go_loop [9] (fun v => v = .int .i64 0) (fun _ => 0)
  case atStart => exact rfl
  case round =>
   subst hrel
   go_wp2
   go_ret
   exact ⟨rfl,rfl⟩
 ·obtain ⟨b1,o1,rfl,-,hc1⟩:=aJ hp (by omega)
  obtain ⟨b2,o2,rfl,-,hc2⟩:=aJ hq (by omega)
  have H1:=Lib.hid hc1
  have H2:=Lib.hid hc2
  clear hc1 hc2 hp hq
  go_enter Tryz.func94,Tryz.ntmps94
  go_wp2_with fail
  go_loop [5,6,9] (fun _ _ v => ∃ i:Nat,v = .int .i64 i ∧ i ≤ s.length ∧ Hid (∀ j,j < i → l[j]? = s[j]?)) (fun _ _ v => s.length - (intOf v).toNat)
  case atStart => exact ⟨0,rfl,Nat.zero_le _,fun j hj => by omega⟩
  case round =>
   obtain ⟨i,rfl,hi,HK⟩:=hrel
   by_cases hend:i = s.length
   ·have HA:=Lib.hid (jr hl HK.out hi (.inl hend))
    clear HK
    subst hend
    go_wp2
    go_ret
    exact ⟨by rw [HA.out];rfl,rfl⟩
   ·have hlt:i < s.length:=by omega
    have d1:=H1.out i (by omega)
    have d2:=H2.out i hlt
    have e1:l[i]? = some l[i]:=List.getElem?_eq_getElem (by omega)
    have e2:s[i]? = some s[i]:=List.getElem?_eq_getElem hlt
    by_cases hne:l[i] = s[i]
    ·rw [hne] at d1
     have HN:Hid (∀ j,j < i + 1 → l[j]? = s[j]?):=by
      intro j hj
      by_cases e:j = i
      ·subst e;rw [e1,e2,hne]
      ·exact HK.out j (by omega)
     have hc:s[i].toNat < 256:=s[i].toNat_lt
     generalize s[i].toNat = v at d1 d2 hc
     clear e1 e2 hne HK
     go_wp2
     go_round
     case rel => exact ⟨i + 1,by go_num,by omega,HN.out⟩
     case measure => simp [intOf];omega
    ·have HA:=Lib.hid (jr hl HK.out hi (.inr (by rw [e1,e2];intro hc;exact hne (Option.some.inj hc))))
     have hb:(((l[i].toNat:Nat):Int) != ((s[i].toNat:Nat):Int)) = true:=by
      rw [bne_iff_ne]
      intro hc
      exact hne (UInt8.toNat_inj.1 (by omega))
     generalize l[i].toNat = u at d1 hb
     generalize s[i].toNat = v at d2 hb
     clear e1 e2 hne HK
     go_wp2
     go_ret
     exact ⟨by rw [HA.out];rfl,rfl⟩
def sV (w:World) (B:Nat) (v:Value) (ys:List UInt8) (e:Ending) (w':World):Prop :=
 ∃ q cap,e = .returned (.slice q ys.length cap) ∧ Has w' B (.slice q ys.length cap) ys ∧ Aside (fun k => v.ownBlock = some k) w w' ∧ ∀ k,(Value.slice q ys.length cap).ownBlock = some k → v.ownBlock = some k ∨ w.heap.size ≤ k
theorem km {w w1 w2 w3 w4:World} {v v2:Value} (h1:Below w.heap.size w w1) (h2:Aside (fun k => v.ownBlock = some k) w1 w2) (hv:∀ k,v2.ownBlock = some k → v.ownBlock = some k ∨ w1.heap.size ≤ k) (h3:Below w2.heap.size w2 w3) (h4:Aside (fun k => v2.ownBlock = some k) w3 w4):Aside (fun k => v.ownBlock = some k) w w4:=by
 have a1:=al h1 (fun k => v.ownBlock = some k)
 have a2:=a1.trans h2 (fun _ _ h => h)
 have a3:=a2.trans (al h3 (fun k => v.ownBlock = some k)) (fun _ _ h => h)
 exact a3.trans h4 (fun i hi hc => by
  rcases hv i hc with h | h
  ·exact h
  ·have:=h1.size;omega)
theorem ow (p l:List UInt8) (B:Nat) (vp:Value) (q:Option Addr) (c:Nat) (w:World) (hB:B ≤ w.heap.size) (hp:p.length ≤ 1000000) (hl:l.length ≤ 2048) (hb:Has w B vp p) (hq:AtB w B q l) :
    Calls Tryz.prog 67 #[vp,.slice q l.length c] w (sV w B vp (Blk.putL p l)):=by
  obtain ⟨p0,cap,rfl,-,hcap⟩:=hb.at
  have HHas:=Lib.hid hb
  have HQ:=Lib.hid hq
  clear hb hq
  unfold Blk.putL
  by_cases h0:l = []
  · rw [if_pos h0]
    subst h0
    go_enter Tryz.func67,Tryz.ntmps67
    go_wp2
    go_ret
    exact ⟨p0,cap,rfl,HHas.out,Aside.refl _ _,fun k hk => .inl hk⟩
  · rw [if_neg h0]
    have g0:((l.length:Int) == 0) = false:=by
      rw [beq_eq_false_iff_ne]
      have:=List.length_pos_iff.2 h0
      omega
    have HP:Hid (∀ z:Int,z = ((2 * l.length:Nat):Int) → Calls Tryz.prog 79 #[.int .u64 z] w fun e w' => ∃ g cap,e = .returned (.slice (some ⟨g,0,none⟩) (Leb.put (2 * l.length)).length cap) ∧ aW w' w.heap.size g cap (Leb.put (2 * l.length)) ∧ Below w.heap.size w w'):=fun z hz => by
      subst hz;exact du _ (by omega) w
    have hpl:=Leb.put_length_le (2 * l.length)
    obtain ⟨u,hu⟩:∃ u,u = Leb.put (2 * l.length):=⟨_,rfl⟩
    rw [← hu] at HP hpl ⊢
    clear hu h0
    go_enter Tryz.func67,Tryz.ntmps67
    go_wp2_with fail
    refine (HP.out _ (by omega)).mono ?_
    rintro e w1 ⟨g,cap1,rfl,hm,hb1⟩
    have HM:=Lib.hid hm
    have HB1:=Lib.hid hb1
    have hB1:=hb1.size
    clear hm hb1
    go_wp2_with (first
      | (at_builtin
         refine aA (HHas.out.on HB1.out) HM.out.at (by omega) (by omega) rfl rfl rfl rfl rfl ?_
         intro ys q3 cap3 W HY hh ha hk
         have HB2:=Lib.hid (aw ha (HHas.out.on HB1.out) (by omega))
         have HH:=Lib.hid hh
         have hyl:ys.length ≤ 1100000:=by rw [HY.out,List.length_append];omega
         have HQ2:=Lib.hid ((HQ.out.keep (HB1.out.mono hB)).keep HB2.out)
         have hB2:=HB2.out.size
         have HA1:=Lib.hid ha
         have HK1:=Lib.hid hk
         clear ha hk hh)
      | (at_builtin
         refine aA HH.out HQ2.out.at_ (by omega) (by omega) rfl rfl rfl rfl rfl ?_
         intro zs q4 cap4 W2 HZ hh ha hk
         have HA2:=Lib.hid ha
         have HK2:=Lib.hid hk
         have HH2:=Lib.hid hh
         clear ha hk hh))
    go_ret
    have e:zs = p ++ (u ++ l):=by rw [HZ.out,HY.out,List.append_assoc]
    rw [← e]
    refine ⟨q4,cap4,rfl,HH2.out,km HB1.out HA1.out HK1.out (Below.refl _ _) HA2.out,fun k hk => ?_⟩
    rcases HK2.out k hk with h | h
    · rcases HK1.out k h with h | h
      · exact .inl h
      · exact .inr (by omega)
    · exact .inr (by omega)
theorem tr (p:List UInt8) (m:Blk.Mt) (B:Nat) (vp:Value) (w:World) (hB:B ≤ w.heap.size) (hp:p.length ≤ 1000000) (hm1:m.size ≤ 255) (hm2:m.back ≤ 1024) (hb:Has w B vp p) :
    Calls Tryz.prog 66 #[vp,.agg #[.int .i64 (m.size:Nat),.int .i64 (m.back:Nat)]] w (sV w B vp (Blk.putM p m)):=by
  obtain ⟨p0,cap,rfl,-,hcap⟩:=hb.at
  unfold Blk.putM
  obtain ⟨ms,hms⟩:∃ ms,ms = m.size:=⟨_,rfl⟩
  obtain ⟨mb,hmb⟩:∃ mb,mb = m.back:=⟨_,rfl⟩
  rw [← hms,← hmb]
  rw [← hms] at hm1
  rw [← hmb] at hm2
  clear hms hmb m
  obtain ⟨W0,hW0⟩:∃ W0,W0 = w.alloc (.cells #[.int .i64 (ms:Nat),.int .i64 (mb:Nat)] 141):=⟨_,rfl⟩
  have HB0:Hid (Below w.heap.size w W0):=by rw [hW0];exact (Below.refl _ _).alloc (Nat.le_refl _) _
  have d0:W0.cell? ⟨w.heap.size,0,none⟩ = some (.int .i64 ms):=by rw [hW0];simp
  have d1:W0.cell? ⟨w.heap.size,1,none⟩ = some (.int .i64 mb):=by rw [hW0];simp
  have hs0:W0.heap.size = w.heap.size + 1:=by rw [hW0];simp
  have HHas:=Lib.hid (hb.on HB0.out)
  have HL:Hid (∀ k,(Value.slice p0 p.length cap).ownBlock = some k → k < w.heap.size):=fun k hk => (hb.lt k hk).2
  have HP:Hid (∀ (W:World) (z:Int),z = ((2 * ms + 1:Nat):Int) → Calls Tryz.prog 79 #[.int .u64 z] W fun e w' => ∃ g cap,e = .returned (.slice (some ⟨g,0,none⟩) (Leb.put (2 * ms + 1)).length cap) ∧ aW w' W.heap.size g cap (Leb.put (2 * ms + 1)) ∧ Below W.heap.size W w'):=fun W z hz => by
    subst hz;exact du _ (by omega) W
  have HP2:Hid (∀ (W:World) (z:Int),z = ((mb:Nat):Int) → Calls Tryz.prog 79 #[.int .u64 z] W fun e w' => ∃ g cap,e = .returned (.slice (some ⟨g,0,none⟩) (Leb.put mb).length cap) ∧ aW w' W.heap.size g cap (Leb.put mb) ∧ Below W.heap.size W w'):=fun W z hz => by
    subst hz;exact du _ (by omega) W
  have hpl:=Leb.put_length_le (2 * ms + 1)
  have hpl2:=Leb.put_length_le mb
  obtain ⟨u,hu⟩:∃ u,u = Leb.put (2 * ms + 1):=⟨_,rfl⟩
  obtain ⟨v,hv⟩:∃ v,v = Leb.put mb:=⟨_,rfl⟩
  rw [← hu] at HP hpl ⊢
  rw [← hv] at HP2 hpl2 ⊢
  have HW0:=Lib.hid hW0
  clear hu hv hW0 hb
  go_enter Tryz.func66,Tryz.ntmps66
  go_wp2_with fail
  rw [← HW0.out]
  refine (HP.out _ _ (by omega)).mono ?_
  rintro e w1 ⟨g,cap1,rfl,hm,hb1⟩
  have HM:=Lib.hid hm
  have HB1:=Lib.hid hb1
  have hB1:=hb1.size
  have e1:w1.cell? ⟨w.heap.size,1,none⟩ = some (.int .i64 mb):=by rw [HB1.out.cell (p:=⟨w.heap.size,1,none⟩) (by show w.heap.size < _;omega)];exact d1
  clear hm hb1
  go_wp2_with (first
    | (at_builtin
       refine aA (HHas.out.on HB1.out) HM.out.at (by omega) (by omega) rfl rfl rfl rfl rfl ?_
       intro ys q3 cap3 W HY hh ha hk
       have HB2:=Lib.hid (aw ha (HHas.out.on HB1.out) (by omega))
       have f1:W.cell? ⟨w.heap.size,1,none⟩ = some (.int .i64 mb):=by
         rw [ha.cell (p:=⟨w.heap.size,1,none⟩) (by show w.heap.size < _;omega) (fun hc => by have:=HL.out _ hc;exact absurd this (Nat.lt_irrefl _))]
         exact e1
       have HH:=Lib.hid hh
       have hyl:ys.length ≤ 1100000:=by rw [HY.out,List.length_append];omega
       have hB2:=HB2.out.size
       have HA1:=Lib.hid ha
       have HK1:=Lib.hid hk
       clear ha hk hh)
    | fail)
  refine (HP2.out _ _ (by omega)).mono ?_
  rintro e w2 ⟨g2,cap2,rfl,hm,hb1⟩
  have HM2:=Lib.hid hm
  have HB3:=Lib.hid hb1
  have hB3:=hb1.size
  clear hm hb1
  go_wp2_with (first
    | (at_builtin
       refine aA (HH.out.on HB3.out) HM2.out.at (by omega) (by omega) rfl rfl rfl rfl rfl ?_
       intro zs q4 cap4 W2 HZ hh ha hk
       have HA2:=Lib.hid ha
       have HK2:=Lib.hid hk
       have HH2:=Lib.hid hh
       clear ha hk hh)
    | fail)
  go_ret
  have e:zs = p ++ (u ++ v):=by rw [HZ.out,HY.out,List.append_assoc]
  rw [← e]
  refine ⟨q4,cap4,rfl,HH2.out,km (HB0.out.trans (HB1.out.mono (by omega))) HA1.out HK1.out HB3.out HA2.out,fun k hk => ?_⟩
  rcases HK2.out k hk with h | h
  · rcases HK1.out k h with h | h
    · exact .inl h
    · exact .inr (by omega)
  · exact .inr (by omega)
end
section
open Go.RowKit Go.Maps
theorem u5:laidOutB Tryz.prog = true:=by kernel_rfl
theorem rX:(172:TypeId) < Tryz.prog.types.size:=of_decide_eq_true (by kernel_rfl)
theorem pN:(match Tryz.prog.underlying 172 with | some (.array _ _) | some (.struct _) => true | _ => false) = true:=by kernel_rfl
theorem u4:Keyed Tryz.prog 172:=Keyed.of_law (deep_law_laid u5 (m:=3) (by omega) rX (by kernel_rfl) pN)
theorem oe (w:World):(zeroValue 3).run Tryz.prog w = .ok (.int .i64 0) w:=by kernel_rfl
theorem pO:Tryz.prog.keyType 172 = true:=by kernel_rfl
theorem iZ:Tryz.prog.cellsOf 172 = 4:=by kernel_rfl
theorem nG:Tryz.prog.cellsOf 5 = 1:=by kernel_rfl
theorem pP:∃ n,Tryz.prog.types.size + 1 = n + 2:=⟨Tryz.prog.types.size - 1,by kernel_rfl⟩
theorem tB (a:Nat) (h:a < 256):(Lit.int .u8 (a:Int)).wf = true:=by
 have:∀ i:Fin 256,(Lit.int .u8 ((i.val:Nat):Int)).wf = true:=by decide +kernel
 exact this ⟨a,h⟩
theorem nF (a:Nat) (h:a < 256):Lit.keyBytes (.int .u8 (a:Int)) = [UInt8.ofNat a]:=by
 show bytesBE 1 ((a:Int) % 2 ^ 8).toNat = _
 have e:((a:Int) % 2 ^ 8).toNat = a:=by omega
 rw [e]
 show [UInt8.ofNat (a % 256)] = _
 rw [Nat.mod_eq_of_lt h]
theorem wh (n a:Nat) (h:a < 256):Tryz.prog.keyLits (n + 1) 5 [.int .u8 (a:Int)] = some [.int .u8 (a:Int)]:=by
 unfold Program.keyLits
 simp only [Tryz.underlying5]
 rw [if_pos ⟨trivial,tB a h⟩]
theorem tC (a b c d:Nat) (ha:a < 256) (hb:b < 256) (hc:c < 256) (hd:d < 256):keyOf Tryz.prog 172 (.agg #[.int .u8 a,.int .u8 b,.int .u8 c,.int .u8 d]) = some (.string [UInt8.ofNat a,UInt8.ofNat b,UInt8.ofNat c,UInt8.ofNat d]):=by
 obtain ⟨n,hn⟩:=pP
 have hl:Tryz.prog.keyLits (n + 2) 172 [.int .u8 a,.int .u8 b,.int .u8 c,.int .u8 d] = some [.int .u8 a,.int .u8 b,.int .u8 c,.int .u8 d]:=by
  unfold Program.keyLits
  simp only [Tryz.underlying172]
  rw [if_pos (by rw [iZ];rfl),nG,show List.range 4 = [0,1,2,3] from rfl]
  simp [wh,ha,hb,hc,hd]
 unfold keyOf
 rw [hn]
 simp only [Tryz.underlying172]
 rw [if_pos (by rw [pO];simp [Value.formed,Tryz.underlying172,iZ])]
 show (Tryz.prog.keyLits (n + 2) 172 [.int .u8 a,.int .u8 b,.int .u8 c,.int .u8 d]).map _ = _
 rw [hl]
 simp [keyBytes,nF,ha,hb,hc,hd]
end
section
open Go.RowKit Go.Maps
theorem wB:(Tryz.prog.info? 3).map (fun i => (i.zero,i.size,i.bytes)) = some (some (.int .i64 0),1,8):=by kernel_rfl
theorem kL (n:Int) (w:World):(Instr.makeMap 170 (some (.int .i64 n))).run Tryz.prog w = .ok (.map (some w.heap.size)) (w.alloc (.map #[] 0)):=by
 simp [Instr.makeMap,run_underlying Tryz.underlying170,asInt,asIntOf]
structure mI (w:World) (M n:Nat) (b:List UInt8) (i:Nat):Prop where
 out:∃ D:DataW Unit,w.ownsMap Tryz.prog 172 (plainElem Tryz.prog 3) M n D ∧ ∀ f:List UInt8,f.length = 4 → D.atKey (.string f) (.lit (.int .i64 0)) = .lit (.int .i64 (Blk.last b f i:Nat))
theorem nB (w:World) (b:List UInt8):mI (w.alloc (.map #[] 0)) w.heap.size 0 b 0:=⟨.map [],World.ownsMap_made _ _ _ _,fun _ _ => rfl⟩
theorem mI.keep {w w':World} {M n i:Nat} {b:List UInt8} (h:mI w M n b i) (hb:w'.heap[M]? = w.heap[M]?):mI w' M n b i:=by
 obtain ⟨D,⟨es,clock,h1,h2⟩,h3⟩:=h.out
 exact ⟨D,⟨es,clock,hb.trans h1,h2⟩,h3⟩
structure Seen (w wr:World) (b:List UInt8) (i:Nat):Prop where
 low:Below w.heap.size w wr
 map:mI wr w.heap.size i b i
 row:wr.rowIs (w.heap.size + 1) 3 b.length (fun j => .int .i64 ((if j < i then Blk.ahead b j else 0:Nat):Int))
 var:wr.rowIs (w.heap.size + 1 + 1) 171 1 (fun _ => .slice (some ⟨w.heap.size + 1,0,none⟩) b.length b.length)
theorem na (w:World) (b:List UInt8):Seen w (((w.alloc (.map #[] 0)).alloc (.cells (madeCells #[.int .i64 0] b.length) 3)).alloc (.cells #[.slice (some ⟨w.heap.size + 1,0,none⟩) b.length b.length] 171)) b 0:=by
 have s1:(w.alloc (.map #[] 0)).heap.size = w.heap.size + 1:=by simp
 have s2:((w.alloc (.map #[] 0)).alloc (.cells (madeCells #[.int .i64 0] b.length) 3)).heap.size = w.heap.size + 1 + 1:=by simp
 refine ⟨(((Below.refl _ _).alloc (Nat.le_refl _) _).alloc (by rw [s1];omega) _).alloc (by rw [s2];omega) _,?_,?_,?_⟩
 ·exact (nB w b).keep (((MapKept.heap_alloc _ _).2 _ (by rw [s2];omega)).trans ((MapKept.heap_alloc _ _).2 _ (by rw [s1];omega)))
 ·have h:=World.rowIs_made (w.alloc (.map #[] 0)) (.int .i64 0) b.length 3
  rw [s1] at h
  exact (h.alloc _).congr (fun j _ => by rw [if_neg (by omega)];rfl)
 ·have h:=World.rowIs_alloc ((w.alloc (.map #[] 0)).alloc (.cells (madeCells #[.int .i64 0] b.length) 3)) #[.slice (some ⟨w.heap.size + 1,0,none⟩) b.length b.length] 171 (fun _ => .slice (some ⟨w.heap.size + 1,0,none⟩) b.length b.length) (fun i hi => by
   have:i = 0:=by simp at hi;omega
   subst this;rfl)
  rw [s2] at h
  exact h
theorem tJ (b:List UInt8) (i:Nat) (h:i + 4 ≤ b.length):Blk.four b i = [UInt8.ofNat b[i].toNat,UInt8.ofNat b[i + 1].toNat,UInt8.ofNat b[i + 2].toNat,UInt8.ofNat b[i + 3].toNat]:=by
 unfold Blk.four
 rw [List.drop_eq_getElem_cons (by omega),List.drop_eq_getElem_cons (by omega),List.drop_eq_getElem_cons (by omega),List.drop_eq_getElem_cons (by omega)]
 simp only [List.take_succ_cons,List.take_zero,UInt8.ofNat_toNat]
theorem pM (b f:List UInt8) (i:Nat):Blk.last b f (i + 1) = if Blk.four b i = f then i + 1 else Blk.last b f i:=rfl
theorem Seen.next {w wr W:World} {b:List UInt8} {i:Nat} {D:DataW Unit} (h:Seen w wr b i) (hi:i + 4 ≤ b.length)
  (hD:∀ f:List UInt8,f.length = 4 → D.atKey (.string f) (.lit (.int .i64 0)) = .lit (.int .i64 (Blk.last b f i:Nat))) (hM:Maps.IsMap D)
  (hW:W.ownsMap Tryz.prog 172 (plainElem Tryz.prog 3) w.heap.size (i + 1) (D.put (.string (Blk.four b i)) (.lit (.int .i64 ((i + 1:Nat):Int)))))
  (hlow:Below w.heap.size w W)
  (hrow:W.rowIs (w.heap.size + 1) 3 b.length (fun j => if j = i then .int .i64 (Blk.ahead b i:Nat) else .int .i64 ((if j < i then Blk.ahead b j else 0:Nat):Int)))
  (hvar:W.rowIs (w.heap.size + 1 + 1) 171 1 (fun _ => .slice (some ⟨w.heap.size + 1,0,none⟩) b.length b.length)):Seen w W b (i + 1):=by
 refine ⟨hlow,⟨_,hW,fun f hf => ?_⟩,hrow.congr (fun j _ => ?_),hvar⟩
 ·rw [pM]
  by_cases e:Blk.four b i = f
  ·subst e
   rw [if_pos rfl,Maps.atKey_put_same hM (by trivial)]
  ·rw [if_neg e,Maps.atKey_put_other (fun hc => e (by injection hc with hc;exact hc.symm)),hD f hf]
 ·by_cases e:j = i
  ·subst e
   rw [if_pos rfl,if_pos (by omega)]
  ·rw [if_neg e]
   by_cases e2:j < i
   ·rw [if_pos e2,if_pos (by omega)]
   ·rw [if_neg e2,if_neg (by omega)]
theorem Seen.end {w wr:World} {b:List UInt8} {i:Nat} (h:Seen w wr b i) (hi:¬ i + 4 ≤ b.length):wr.rowIs (w.heap.size + 1) 3 b.length (fun j => .int .i64 ((Blk.ahead b j:Nat):Int)):=by
 refine h.row.congr (fun j _ => ?_)
 by_cases e:j < i
 ·rw [if_pos e]
 ·rw [if_neg e,show Blk.ahead b j = 0 by unfold Blk.ahead;rw [if_neg (by omega)]]
structure mH (w:World) (G A:Nat) (b:List UInt8):Prop where
 row:w.rowIs A 3 b.length (fun j => .int .i64 ((Blk.ahead b j:Nat):Int))
 var:w.rowIs G 171 1 (fun _ => .slice (some ⟨A,0,none⟩) b.length b.length)
theorem tz (b:List UInt8) (q:Option Addr) (c:Nat) (w:World) (hb:b.length ≤ 2048) (hq:At w q b) :
    Calls Tryz.prog 64 #[.slice q b.length c] w fun e w' => e = .returned (.func (.func 93) #[] #[.pointer (some ⟨w.heap.size + 1 + 1,0,none⟩)]) ∧ mH w' (w.heap.size + 1 + 1) (w.heap.size + 1) b ∧ Below w.heap.size w w':=by
  have hmm:=kL
  have hmk:∀ w:World,(Instr.makeSlice 171 (.int .i64 b.length) (.int .i64 b.length)).run Tryz.prog w = .ok (.slice (some ⟨w.heap.size,0,none⟩) b.length b.length) (w.alloc (.cells (madeCells #[.int .i64 0] b.length) 3)):=run_make_row' (P:=Tryz.prog) 171 3 (.int .i64 0) 8 Tryz.underlying171 wB rfl .i64 .i64 b.length (by omega) (by omega)
  have HS:=Lib.hid (na w b)
  have HQ:=Lib.hid (hq.atB (Nat.le_refl w.heap.size))
  clear hq
  go_enter Tryz.func64,Tryz.ntmps64
  go_wp2_with fail
  generalize (((w.alloc (.map #[] 0)).alloc (.cells (madeCells #[.int .i64 0] b.length) 3)).alloc (.cells #[.slice (some ⟨w.heap.size + 1,0,none⟩) b.length b.length] 171)) = W0 at HS ⊢
  go_loopw [16] (fun v16 wr => ∃ i:Nat,i ≤ b.length - 3 ∧ v16 = .int .i64 i ∧ Hid (Seen w wr b i)) (fun v16 _ => b.length - (intOf v16).toNat)
  case atStart => exact ⟨0,Nat.zero_le _,rfl,HS⟩
  case round =>
    obtain ⟨i,hi,rfl,HK⟩:=hrel
    by_cases hlt:i + 4 ≤ b.length
    · obtain ⟨bb,o,rfl,hbl,hcs⟩:=aJ HQ.out.at_ (by omega)
      have hcs':dZ wr bb o b:=fun j hj => by
        rw [HK.out.low.cell (p:=⟨bb,o + j,none⟩) hbl]
        exact hcs j hj
      have d0:=hcs' i (by omega)
      have d1:=hcs' (i + 1) (by omega)
      have d2:=hcs' (i + 2) (by omega)
      have d3:=hcs' (i + 3) (by omega)
      have n0:b[i].toNat < 256:=b[i].toNat_lt
      have n1:b[i + 1].toNat < 256:=b[i + 1].toNat_lt
      have n2:b[i + 2].toNat < 256:=b[i + 2].toNat_lt
      have n3:b[i + 3].toNat < 256:=b[i + 3].toNat_lt
      have hfo:=tJ b i hlt
      generalize b[i].toNat = x0 at d0 n0 hfo
      generalize b[i + 1].toNat = x1 at d1 n1 hfo
      generalize b[i + 2].toNat = x2 at d2 n2 hfo
      generalize b[i + 3].toNat = x3 at d3 n3 hfo
      clear hcs hcs'
      have p1:(0:Int) ≤ (i:Int) + 1:=by omega
      have q1:(i:Int) + 1 < (b.length:Int):=by omega
      have p2:(0:Int) ≤ (i:Int) + 2:=by omega
      have q2:(i:Int) + 2 < (b.length:Int):=by omega
      have p3:(0:Int) ≤ (i:Int) + 3:=by omega
      have q3:(i:Int) + 3 < (b.length:Int):=by omega
      have t2:((i:Int) + 2).toNat = i + 2:=by omega
      have t3:((i:Int) + 3).toNat = i + 3:=by omega
      have a0:∀ ob,(wr.alloc ob).cell? ⟨bb,o + i,none⟩ = some (.int .u8 x0):=fun ob => by rw [((Below.refl wr.heap.size wr).alloc (Nat.le_refl _) ob).cell (p:=⟨bb,o + i,none⟩) (by have:=HK.out.low.size;show bb < _;omega)];exact d0
      have a1:∀ ob,(wr.alloc ob).cell? ⟨bb,o + (i + 1),none⟩ = some (.int .u8 x1):=fun ob => by rw [((Below.refl wr.heap.size wr).alloc (Nat.le_refl _) ob).cell (p:=⟨bb,o + (i + 1),none⟩) (by have:=HK.out.low.size;show bb < _;omega)];exact d1
      have a2:∀ ob,(wr.alloc ob).cell? ⟨bb,o + (i + 2),none⟩ = some (.int .u8 x2):=fun ob => by rw [((Below.refl wr.heap.size wr).alloc (Nat.le_refl _) ob).cell (p:=⟨bb,o + (i + 2),none⟩) (by have:=HK.out.low.size;show bb < _;omega)];exact d2
      have a3:∀ ob,(wr.alloc ob).cell? ⟨bb,o + (i + 3),none⟩ = some (.int .u8 x3):=fun ob => by rw [((Below.refl wr.heap.size wr).alloc (Nat.le_refl _) ob).cell (p:=⟨bb,o + (i + 3),none⟩) (by have:=HK.out.low.size;show bb < _;omega)];exact d3
      have l0:i < b.length:=by omega
      have l1:i + 1 < b.length:=by omega
      have l2:i + 2 < b.length:=by omega
      have l3:i + 3 < b.length:=by omega
      have w1:IntKind.i64.wrap ((i:Int) + 1) = ((i + 1:Nat):Int):=by rw [IntKind.wrap_i64];omega
      have w2:IntKind.i64.wrap ((i:Int) + 2) = ((i + 2:Nat):Int):=by rw [IntKind.wrap_i64];omega
      have w3:IntKind.i64.wrap ((i:Int) + 3) = ((i + 3:Nat):Int):=by rw [IntKind.wrap_i64];omega
      obtain ⟨D,hown,hD⟩:=HK.out.map.out
      have hkey:=tC x0 x1 x2 x3 n0 n1 n2 n3
      rw [← hfo] at hkey
      have hfl:(Blk.four b i).length = 4:=by rw [hfo];rfl
      have hah:Blk.last b (Blk.four b i) i = Blk.ahead b i:=by unfold Blk.ahead;rw [if_pos hlt]
      have hDi:=hD _ hfl
      rw [hah] at hDi
      have hsz:=HK.out.row.lt
      have hsz2:=HK.out.var.lt
      have hah2:=Blk.ahead_le b i
      obtain ⟨L,hL⟩:∃ L,L = Blk.ahead b i:=⟨_,rfl⟩
      rw [← hL] at hDi hah2
      obtain ⟨W1,hW1⟩:∃ W1,W1 = (wr.alloc (.cells #[.int .u8 x0,.int .u8 x1,.int .u8 x2,.int .u8 x3] 172)).drew:=⟨_,rfl⟩
      have hrow1:W1.rowIs (w.heap.size + 1) 3 b.length (fun j => .int .i64 ((if j < i then Blk.ahead b j else 0:Nat):Int)):=by rw [hW1];exact (HK.out.row.alloc _).drew
      have hvar1:W1.rowIs (w.heap.size + 1 + 1) 171 1 (fun _ => .slice (some ⟨w.heap.size + 1,0,none⟩) b.length b.length):=by rw [hW1];exact (HK.out.var.alloc _).drew
      have hfour1:W1.heap[wr.heap.size]? = some (.cells #[.int .u8 x0,.int .u8 x1,.int .u8 x2,.int .u8 x3] 172):=by rw [hW1];exact (MapKept.heap_alloc wr _).1
      have hown1:W1.ownsMap Tryz.prog 172 (plainElem Tryz.prog 3) w.heap.size i D:=by rw [hW1];exact (hown.alloc _).drew
      have hlow1:Below w.heap.size w W1:=by
        rw [hW1]
        have:=HK.out.low.alloc HK.out.low.size (.cells #[.int .u8 x0,.int .u8 x1,.int .u8 x2,.int .u8 x3] 172)
        exact ⟨this.os,this.tape,this.output,this.size,this.block⟩
      obtain ⟨W2,hW2⟩:∃ W2,W2 = (W1.setCell ⟨w.heap.size + 1,i,none⟩ (.int .i64 L)).drew:=⟨_,rfl⟩
      have hrow2:=(hrow1.set i (.int .i64 L)).drew
      rw [← hW2] at hrow2
      have hvar2:W2.rowIs (w.heap.size + 1 + 1) 171 1 (fun _ => .slice (some ⟨w.heap.size + 1,0,none⟩) b.length b.length):=by rw [hW2];exact (hvar1.setOther (by show _ ≠ w.heap.size + 1;omega) _).drew
      have hfour2:W2.heap[wr.heap.size]? = some (.cells #[.int .u8 x0,.int .u8 x1,.int .u8 x2,.int .u8 x3] 172):=by
        rw [hW2]
        show (W1.setCell _ _).heap[wr.heap.size]? = _
        rw [Below.heap_setCell _ _ _ _ (by show _ ≠ w.heap.size + 1;omega)];exact hfour1
      have hown2:W2.ownsMap Tryz.prog 172 (plainElem Tryz.prog 3) w.heap.size i D:=by
        obtain ⟨es,clock,h1,h2⟩:=hown1
        refine ⟨es,clock,?_,h2⟩
        rw [hW2]
        show (W1.setCell _ _).heap[w.heap.size]? = _
        rw [Below.heap_setCell _ _ _ _ (by show _ ≠ w.heap.size + 1;omega)];exact h1
      have hlow2:Below w.heap.size w W2:=by
        rw [hW2]
        have hd:=hlow1.setCell (p:=⟨w.heap.size + 1,i,none⟩) (by show w.heap.size ≤ w.heap.size + 1;omega) (.int .i64 L)
        exact ⟨hd.os,hd.tape,hd.output,hd.size,hd.block⟩
      have f0:=hvar1.cell (i:=0) (by omega)
      have f1:=hrow1.cell (i:=i) (by omega)
      have f2:=hrow1.frozen i
      have g0:W1.cell? ⟨wr.heap.size,0,none⟩ = some (.int .u8 x0):=by simp [World.cell?,hfour1]
      have g1:W1.cell? ⟨wr.heap.size,1,none⟩ = some (.int .u8 x1):=by simp [World.cell?,hfour1]
      have g2:W1.cell? ⟨wr.heap.size,2,none⟩ = some (.int .u8 x2):=by simp [World.cell?,hfour1]
      have g3:W1.cell? ⟨wr.heap.size,3,none⟩ = some (.int .u8 x3):=by simp [World.cell?,hfour1]
      have h0:W2.cell? ⟨wr.heap.size,0,none⟩ = some (.int .u8 x0):=by simp [World.cell?,hfour2]
      have h1:W2.cell? ⟨wr.heap.size,1,none⟩ = some (.int .u8 x1):=by simp [World.cell?,hfour2]
      have h2:W2.cell? ⟨wr.heap.size,2,none⟩ = some (.int .u8 x2):=by simp [World.cell?,hfour2]
      have h3:W2.cell? ⟨wr.heap.size,3,none⟩ = some (.int .u8 x3):=by simp [World.cell?,hfour2]
      obtain ⟨Lc,hlook,hat,-⟩:=hown1.lookup_int u4 Tryz.underlying170 Tryz.underlying3 (oe _) hkey
      obtain ⟨Ld,hlookd,hatd,-⟩:=(hown1.drew).lookup_int u4 Tryz.underlying170 Tryz.underlying3 (oe _) hkey
      rw [hDi] at hat hatd
      injection hat with hat
      injection hat with _ hat
      injection hatd with hatd
      injection hatd with _ hatd
      rw [← hat] at hlook
      rw [← hatd] at hlookd
      have HW1:=Lib.hid hW1
      have HW2:=Lib.hid hW2
      have HLow:=Lib.hid hlow2
      have HRow:=Lib.hid hrow2
      have HVar:=Lib.hid hvar2
      have HOwn:=Lib.hid hown2
      have HL:=Lib.hid hL
      have HKey:=Lib.hid hkey
      have HD:=Lib.hid hD
      clear hW1 hW2 hrow1 hvar1 hfour1 hown1 hlow1 hrow2 hvar2 hfour2 hown2 hlow2 hown hD hkey hDi hah hL hfo hat hatd hsz hsz2
      go_wp2_with fail
      go_region
      go_wp2_with fail
      rw [← HW1.out]
      clear a0 a1 a2 a3 d0 d1 d2 d3 p1 p2 p3 q1 q2 q3 w1 w2 w3 t2 t3 l1 l2 l3
      go_region
      rw [← HW2.out]
      have wi:IntKind.i64.wrap ((i:Int) + 1) = ((i + 1:Nat):Int):=by rw [IntKind.wrap_i64];omega
      clear f0 f1 f2 g0 g1 g2 g3 hlook hlookd
      have hIM:Maps.IsMap D:=HOwn.out.isMap
      go_wp2_with (first
        | (at_mapUpdate
           refine wpList_mapUpdate_own _ rfl _ _ _ 170 rfl 172 3 u4 Tryz.underlying170 _ w.heap.size i D rfl HOwn.out (by unfold maxLen;omega) _ _ _ rfl rfl HKey.out _ [] (plainElem_int Tryz.underlying3 (WalkArith.wf_i64 (by omega))) ?_
           intro W3 hown3 hgr3
           have HO3:=Lib.hid hown3
           have HG3:=Lib.hid hgr3
           clear hown3 hgr3)
        | fail)
      go_roundw
      case rel =>
        refine ⟨i + 1,by omega,by go_num,?_⟩
        refine HK.out.next hlt HD.out hIM ?_ ?_ ?_ ?_
        · exact HO3.out
        · exact HLow.out.grown HG3.out (by have:=HLow.out.size;omega) (fun k hk => by injection hk with hk;omega)
        · rw [← HL.out]
          exact HRow.out.of_block (HG3.out.block _ HRow.out.lt (fun hc => by injection hc with hc;omega))
        · exact HVar.out.of_block (HG3.out.block _ HVar.out.lt (fun hc => by injection hc with hc;omega))
      case measure => simp [intOf];omega
    · have hin:¬ (i:Int) < (b.length:Int) - 3:=by omega
      have HE:=Lib.hid (HK.out.end hlt)
      go_wp2
      go_ret
      exact ⟨rfl,⟨HE.out,HK.out.var⟩,HK.out.low⟩
end
end Go.Proofs.YtjpgbaiabmiifaaGreatDoor
