import Derived.Test.YtclhbhhlddbocaaGreatDoorA6
import Derived.Test.YtclhbhhlddbocaaGreatDoorA14
import Derived.Test.YtclhbhhlddbocaaGreatDoorWR12S
set_option maxRecDepth 100000
set_option maxHeartbeats 8000000
namespace Go.Proofs.YtclhbhhlddbocaaGreatDoor
open Go.RowKit
def Live14:Prop:=∀ (w:World),Hv w → Calls Tryz.prog 22 #[] w fun e w' => e = .returned (.bool true) ∧ Below w.heap.size w w'
structure JnI (w wr:World) (g x k:Nat) (v:Value) (l:List UInt8) (T:Nat) (i:Nat) (Y:Sc.Pos):Prop where
 dev:KDev wr w.heap.size g v { Dv.new 1048576 with b:=l,safe:=l.length,told:=T + Y.read } x k
 below:Below w.heap.size w wr
 goes:Sc.goes l i = some Y
end Go.Proofs.YtclhbhhlddbocaaGreatDoor
namespace Go.Proofs.YtclhbhhlddbocaaGreatDoor
open Go.RowKit
def zeroFr:Fr:={ kind:=0,number:=0,cols:=[],seq:=0,first:=0,rows:=0,block:=[],index:={ at_:=0,frames:=0,rows:=0,entries:=[] } }
theorem zeroFr_own (w:World) (B:Nat):FOwn w B zero11 zeroFr:=⟨none,0,none,0,none,0,rfl,sown_nil w B,has_nil w B,by decide,eown_nil w B,by decide⟩
def At14.fr (r:Except Nat (Fr × Nat)):Fr:=match r with
 | .error _ => zeroFr
 | .ok (f,_) => f
def At14.to (r:Except Nat (Fr × Nat)):Nat:=match r with
 | .error _ => 0
 | .ok (_,m) => m
def At14.er (r:Except Nat (Fr × Nat)):Nat:=match r with
 | .error e => e
 | .ok _ => 0
theorem AtA.one {r:Except Nat (Fr × Nat)} {w w':World} {e:Ending} (h:AtA r w e w'):∃ u,e = .returned (.tuple #[.agg u,.int .i64 (At14.to r:Nat),.int .i64 (At14.er r:Nat)]) ∧ FOwn w' w.heap.size u (At14.fr r):=by
 cases r with
 | error k => exact ⟨zero11,h,zeroFr_own _ _⟩
 | ok y =>
  obtain ⟨f,m⟩:=y
  obtain ⟨u,h1,h2⟩:=h
  exact ⟨u,h1,h2⟩
def Nums14 (w:World) (p:Option Addr) (l:List Int):Prop:=∀ i (hi:i < l.length),∃ b o,p = some ⟨b,o,none⟩ ∧ b < w.heap.size ∧ w.cell? ⟨b,o + i,none⟩ = some (.int .i64 l[i])
structure PaI (w1 w2 wr:World) (g r x k:Nat) (v u:Value) (l:List UInt8) (T:Nat):Prop where
 dev:KDev wr w1.heap.size g v { Dv.new 1048576 with b:=l,safe:=l.length,told:=T } x k
 ref:RDev wr w1.heap.size r u { Dv.new 1048576 with b:=l,safe:=l.length,told:=T }
 below:Below w1.heap.size w1 wr
theorem scanAt_any (LIVE:Live14) (p:Option Addr) (c:Nat) (l:List UInt8) (hl:l.length ≤ 140737488351232) (q:Option Addr) (d:Nat) (ps:List Int) (w:World) (hv:Hv w) (hA:At w p l) (hP:Nums14 w q ps) :
  Calls Tryz.prog 6 #[.slice p l.length c,.slice q ps.length d] w fun e w' => e = .returned (.bool true) ∧ Below w.heap.size w w':=by
 have HLv:=Lib.hid (LIVE w hv)
 have HHv:=Lib.hid hv
 have HA:=Lib.hid hA
 have HP:=Lib.hid hP
 clear hv hA LIVE hP
 go_enter Tryz.func6,Tryz.ntmps6
 go_wp2_with fail
 refine HLv.out.mono ?_
 rintro e w1 ⟨rfl,hb1⟩
 have HB1:=Lib.hid hb1
 clear hb1 HLv
 by_cases hbig:100000 < l.length
 ·have g0:(100000:Int) < (l.length:Int):=by omega
  clear hbig
  go_wp2
  go_ret
  exact ⟨rfl,HB1.out⟩
 have g0:¬ (100000:Int) < (l.length:Int):=by omega
 have HLd:=Lib.hid (laid14 p c l (by omega) w1 (HA.out.on HB1.out))
 have hll:l.length ≤ 100000:=by omega
 clear hbig
 go_wp2_with fail
 refine HLd.out.mono ?_
 rintro e w2 ⟨g,r,v,u,x,k,rfl,h2⟩
 have HH2:=Lib.hid h2
 have g1:decide (100000 < l.length) = false:=decide_eq_false (by omega)
 clear h2 HLd
 by_cases hbig:50 < ps.length
 ·have g2:(50:Int) < (ps.length:Int):=by omega
  have g3:decide (50 < ps.length) = true:=decide_eq_true hbig
  go_wp2
  go_ret
  exact ⟨rfl,HB1.out.trans (HH2.out.below.mono HB1.out.size)⟩
 have g2:¬ (50:Int) < (ps.length:Int):=by omega
 have g3:decide (50 < ps.length) = false:=decide_eq_false hbig
 have hps:ps.length ≤ 50:=by omega
 have HI2:Hid (PaI w1 w2 w2 g r x k v u l 0):=⟨HH2.out.dev,HH2.out.ref,HH2.out.below⟩
 have HAp:=Lib.hid HH2.out.apart
 have HHB:Hid (1 < w1.heap.size):=(HHv.out.next HB1.out).lt
 clear hbig HH2 HA
 go_wp2_with fail
 go_loopw [46] (fun v46 wr => ∃ i T:Nat,i ≤ ps.length ∧ v46 = .int .i64 (i:Nat) ∧ T ≤ i * 2202 ∧ Hid (PaI w1 w2 wr g r x k v u l T)) (fun v46 _ => ps.length - (intOf v46).toNat)
 case atStart => exact ⟨0,0,Nat.zero_le _,rfl,Nat.zero_le _,HI2⟩
 case round =>
  obtain ⟨i,T,hi,rfl,hT,HI⟩:=hrel
  have hiI:(i:Int) ≤ 50:=by omega
  by_cases hlt:i < ps.length
  ·have f1:(i:Int) < (ps.length:Int):=by omega
   obtain ⟨qb,qo,rfl,hqb,hqc⟩:=HP.out i hlt
   obtain ⟨pl,hpl⟩:∃ pl,pl = ps[i]:=⟨_,rfl⟩
   rw [← hpl] at hqc
   have q0:wr.cell? ⟨qb,qo + i,none⟩ = some (.int .i64 pl):=cell_on (HB1.out.trans (HI.out.below.mono HB1.out.size)) hqc
   have HCt:Hid (Calls Tryz.prog 24 #[.pointer (some ⟨g,0,none⟩)] wr fun e w' => e = .returned (.int .i64 (T:Nat)) ∧ w' = wr):=kCounted HI.out.dev
   have hHvr:Hv wr:=(HHv.out.next HB1.out).next HI.out.below
   obtain ⟨rd,hrd0⟩:∃ rd,rd = Sc.reads l pl:=⟨_,rfl⟩
   have hrd:rd ≤ 2202:=by rw [hrd0];exact Sc.reads_le _ _
   have hAt:=kAt HI.out.dev rfl (by show l.length ≤ _;omega) (by show T + l.length ≤ _;omega) hHvr HHB.out pl
   obtain ⟨ra,hra⟩:∃ ra,ra = Sc.at_ l pl:=⟨_,rfl⟩
   have HAt:Hid (Calls Tryz.prog 25 #[.pointer (some ⟨g,0,none⟩),.int .i64 pl] wr fun e w' => AtA ra wr e w' ∧ KDev w' w1.heap.size g v { Dv.new 1048576 with b:=l,safe:=l.length,told:=T + rd } x k ∧ Aside (fun k => k = g) wr w'):=by rw [hra,hrd0];exact hAt
   have HRd:=Lib.hid hrd0
   have HRa:=Lib.hid hra
   clear hAt hra hrd0 hqc hqb hpl hHvr
   go_wp2_with fail
   refine HCt.out.mono ?_
   rintro e w' ⟨rfl,hw'⟩
   rw [hw']
   clear hw' w' HCt
   go_wp2_with fail
   refine HAt.out.mono ?_
   rintro e w4 ⟨hans,hdv4,has4⟩
   obtain ⟨u1,rfl,hfo1⟩:=hans.one
   obtain ⟨F,hF⟩:∃ F,F = At14.fr ra:=⟨_,rfl⟩
   obtain ⟨M,hM⟩:∃ M,M = At14.to ra:=⟨_,rfl⟩
   obtain ⟨E,hE⟩:∃ E,E = At14.er ra:=⟨_,rfl⟩
   rw [← hF] at hfo1
   rw [← hM,← hE]
   obtain ⟨sp,sc,bp,bc,ep,ec,hu,-⟩:=hfo1.out
   unfold cells11 at hu
   subst hu
   obtain ⟨b0,hb0⟩:∃ x,x = F.kind:=⟨_,rfl⟩
   obtain ⟨b1,hb1⟩:∃ x,x = F.number:=⟨_,rfl⟩
   obtain ⟨b2,hbb2⟩:∃ x,x = F.cols.length:=⟨_,rfl⟩
   obtain ⟨b3,hb3⟩:∃ x,x = F.seq:=⟨_,rfl⟩
   obtain ⟨b4,hb4⟩:∃ x,x = F.first:=⟨_,rfl⟩
   obtain ⟨b5,hb5⟩:∃ x,x = F.rows:=⟨_,rfl⟩
   obtain ⟨b6,hb6⟩:∃ x,x = F.block.length:=⟨_,rfl⟩
   obtain ⟨b7,hb7⟩:∃ x,x = F.index.at_:=⟨_,rfl⟩
   obtain ⟨b8,hb8⟩:∃ x,x = F.index.frames:=⟨_,rfl⟩
   obtain ⟨b9,hb9⟩:∃ x,x = F.index.rows:=⟨_,rfl⟩
   obtain ⟨b10,hb10⟩:∃ x,x = F.index.entries.length:=⟨_,rfl⟩
   rw [← hb0,← hb1,← hbb2,← hb3,← hb4,← hb5,← hb6,← hb7,← hb8,← hb9,← hb10] at hfo1 ⊢
   obtain ⟨w5,hw5⟩:∃ w5,w5 = w4.alloc (.cells #[.int .i64 b0,.int .i64 b1,.slice sp b2 sc,.int .i64 b3,.int .i64 b4,.int .i64 b5,.slice bp b6 bc,.int .i64 b7,.int .i64 b8,.int .i64 b9,.slice ep b10 ec] 30):=⟨_,rfl⟩
   have hb45:Below w4.heap.size w4 w5:=by rw [hw5];exact (Below.refl _ _).alloc (Nat.le_refl _) _
   have hk5:w5.heap[w4.heap.size]? = some (.cells #[.int .i64 b0,.int .i64 b1,.slice sp b2 sc,.int .i64 b3,.int .i64 b4,.int .i64 b5,.slice bp b6 bc,.int .i64 b7,.int .i64 b8,.int .i64 b9,.slice ep b10 ec] 30 (0,0)):=by rw [hw5];exact blk_new w4 _
   have HW5:Hid (w4.alloc (.cells #[.int .i64 b0,.int .i64 b1,.slice sp b2 sc,.int .i64 b3,.int .i64 b4,.int .i64 b5,.slice bp b6 bc,.int .i64 b7,.int .i64 b8,.int .i64 b9,.slice ep b10 ec] 30) = w5):=hw5.symm
   have hrl:=HI.out.ref.lt
   have hr4:RDev w4 w1.heap.size r u { Dv.new 1048576 with b:=l,safe:=l.length,told:=T }:=HI.out.ref.aside has4 (fun hc => HAp.out.1 hc.symm) (fun j hj hc => HAp.out.2.2.1 (by rw [hj,hc]))
   have hR:=refAt14 (hr4.below hb45) rfl (by show l.length ≤ _;omega) (by show T + l.length ≤ _;omega) pl
   have HAr:Hid (Calls Tryz.prog 26 #[.pointer (some ⟨r,0,none⟩),.int .i64 pl] w5 fun e w' => AtA ra w5 e w' ∧ RDev w' w1.heap.size r u { Dv.new 1048576 with b:=l,safe:=l.length,told:=T + rd } ∧ Aside (fun k => k = r) w5 w'):=by rw [HRa.out,HRd.out];exact hR
   have HD5:=Lib.hid (hdv4.below hb45)
   have HB4:Hid (Below w1.heap.size w1 w4):=HI.out.below.trans (has4.below HI.out.below.size (fun i hi hc => by have:=HI.out.dev.base;omega))
   have HS4:Hid (wr.heap.size ≤ w4.heap.size):=has4.size
   have HF1:=Lib.hid (hfo1.beside14 (aside_new hb45 (fun k => k = r)) (fun k hk => by omega))
   have HK5:=Lib.hid hk5
   have HB45:=Lib.hid hb45
   have HRb:Hid (w1.heap.size ≤ r):=HI.out.ref.base
   have HQ:Hid (b0 = F.kind ∧ b1 = F.number ∧ b2 = F.cols.length ∧ b3 = F.seq ∧ b4 = F.first ∧ b5 = F.rows ∧ b6 = F.block.length ∧ b7 = F.index.at_ ∧ b8 = F.index.frames ∧ b9 = F.index.rows ∧ b10 = F.index.entries.length ∧ F = At14.fr ra ∧ M = At14.to ra ∧ E = At14.er ra):=⟨hb0,hb1,hbb2,hb3,hb4,hb5,hb6,hb7,hb8,hb9,hb10,hF,hM,hE⟩
   clear hb0 hb1 hbb2 hb3 hb4 hb5 hb6 hb7 hb8 hb9 hb10 hF hM hE
   clear hans hdv4 has4 hfo1 hw5 hb45 hk5 hr4 hR HAt HI HI2 q0 HP
   go_wp2_with fail
   rw [HW5.out]
   refine HAr.out.mono ?_
   rintro e w6 ⟨hans,hdr6,has6⟩
   obtain ⟨u2,rfl,hfo2⟩:=hans.one
   obtain ⟨hb0,hb1,hbb2,hb3,hb4,hb5,hb6,hb7,hb8,hb9,hb10,hF,hM,hE⟩:=HQ.out
   clear HQ
   rw [← hF] at hfo2
   rw [← hM,← hE]
   obtain ⟨sp2,sc2,bp2,bc2,ep2,ec2,hu,-⟩:=hfo2.out
   unfold cells11 at hu
   subst hu
   rw [← hb0,← hb1,← hbb2,← hb3,← hb4,← hb5,← hb6,← hb7,← hb8,← hb9,← hb10] at hfo2 ⊢
   obtain ⟨w7,hw7⟩:∃ w7,w7 = w6.alloc (.cells #[.int .i64 b0,.int .i64 b1,.slice sp2 b2 sc2,.int .i64 b3,.int .i64 b4,.int .i64 b5,.slice bp2 b6 bc2,.int .i64 b7,.int .i64 b8,.int .i64 b9,.slice ep2 b10 ec2] 30):=⟨_,rfl⟩
   have hb67:Below w6.heap.size w6 w7:=by rw [hw7];exact (Below.refl _ _).alloc (Nat.le_refl _) _
   have hk7:w7.heap[w6.heap.size]? = some (.cells #[.int .i64 b0,.int .i64 b1,.slice sp2 b2 sc2,.int .i64 b3,.int .i64 b4,.int .i64 b5,.slice bp2 b6 bc2,.int .i64 b7,.int .i64 b8,.int .i64 b9,.slice ep2 b10 ec2] 30 (0,0)):=by rw [hw7];exact blk_new w6 _
   have HW7:Hid (w6.alloc (.cells #[.int .i64 b0,.int .i64 b1,.slice sp2 b2 sc2,.int .i64 b3,.int .i64 b4,.int .i64 b5,.slice bp2 b6 bc2,.int .i64 b7,.int .i64 b8,.int .i64 b9,.slice ep2 b10 ec2] 30) = w7):=hw7.symm
   have hs56:=has6.size
   have hk56:w6.heap[w4.heap.size]? = some (.cells #[.int .i64 b0,.int .i64 b1,.slice sp b2 sc,.int .i64 b3,.int .i64 b4,.int .i64 b5,.slice bp b6 bc,.int .i64 b7,.int .i64 b8,.int .i64 b9,.slice ep b10 ec] 30 (0,0)):=(has6.block _ (blk_lt HK5.out) (by have:=HS4.out;omega)).trans HK5.out
   have hlie1:FLies w7 #[.int .i64 b0,.int .i64 b1,.slice sp b2 sc,.int .i64 b3,.int .i64 b4,.int .i64 b5,.slice bp b6 bc,.int .i64 b7,.int .i64 b8,.int .i64 b9,.slice ep b10 ec] F:=((HF1.out.beside14 has6 (fun k hk => by omega)).lies).on hb67
   have hlie2:FLies w7 #[.int .i64 b0,.int .i64 b1,.slice sp2 b2 sc2,.int .i64 b3,.int .i64 b4,.int .i64 b5,.slice bp2 b6 bc2,.int .i64 b7,.int .i64 b8,.int .i64 b9,.slice ep2 b10 ec2] F:=hfo2.lies.on hb67
   have hSm:=refSame12 F F _ _ w7 hlie1 hlie2
   rw [Fr.same_refl] at hSm
   have hB5:Below w1.heap.size w1 w5:=HB4.out.trans (HB45.out.mono HB4.out.size)
   have hB6:Below w1.heap.size w1 w6:=hB5.trans (has6.below hB5.size (fun i hi hc => by have:=HRb.out;omega))
   have hd6:=HD5.out.aside has6 (fun hc => HAp.out.1 hc) (fun j hj hc => HAp.out.2.1 (by rw [hj,hc]))
   have HI7:Hid (PaI w1 w2 w7 g r x k v u l (T + rd)):=⟨hd6.below hb67,hdr6.below hb67,hB6.trans (hb67.mono hB6.size)⟩
   have HSm:=Lib.hid hSm
   obtain ⟨x0,x1,x2,x3,x4,x5,x6,x7,x8,x9,x10⟩:=blk_alloc14 hk56
   have hTI:(T:Int) ≤ 200000:=by omega
   clear hans hdr6 has6 hfo2 hw7 hb67 hk7 hk56 hlie1 hlie2 hSm hB5 hB6 hd6 HAr HD5 HB4 HF1 HK5 HB45 HW5 hb0 hb1 hbb2 hb3 hb4 hb5 hb6 hb7 hb8 hb9 hb10 HRd HRa hF hM hE
   go_wp2_with fail
   rw [HW7.out]
   refine HSm.out.mono ?_
   rintro e w8 ⟨rfl,hb8⟩
   have hI8:PaI w1 w2 w8 g r x k v u l (T + rd):=⟨HI7.out.dev.below hb8,HI7.out.ref.below hb8,HI7.out.below.trans (hb8.mono HI7.out.below.size)⟩
   have HI8:=Lib.hid hI8
   have HC1:Hid (Calls Tryz.prog 24 #[.pointer (some ⟨g,0,none⟩)] w8 fun e w' => e = .returned (.int .i64 ((T + rd:Nat):Int)) ∧ w' = w8):=kCounted hI8.dev
   have HC2:Hid (Calls Tryz.prog 27 #[.pointer (some ⟨r,0,none⟩)] w8 fun e w' => e = .returned (.int .i64 ((T + rd:Nat):Int)) ∧ w' = w8):=refCounted hI8.ref
   obtain ⟨T2,hT2⟩:∃ T2,T2 = T + rd:=⟨_,rfl⟩
   rw [← hT2] at HC1 HC2 HI8
   have hT3:T2 ≤ (i + 1) * 2202:=by omega
   have k0:decide ((2202:Int) < (T2:Int) - (T:Int)) = false:=decide_eq_false (by omega)
   have k1:¬ (2202:Int) < (T2:Int) - (T:Int):=by omega
   have hT2I:(T2:Int) ≤ 200000:=by omega
   clear hI8 hb8 hT2 HI7 HSm HW7
   go_wp2_with fail
   refine HC1.out.mono ?_
   rintro e w' ⟨rfl,hw'⟩
   rw [hw']
   clear hw' w'
   go_wp2_with fail
   refine HC1.out.mono ?_
   rintro e w' ⟨rfl,hw'⟩
   rw [hw']
   clear hw' w'
   go_wp2_with fail
   refine HC2.out.mono ?_
   rintro e w' ⟨rfl,hw'⟩
   rw [hw']
   clear hw' w'
   go_wp2
   go_roundw
   case rel => exact ⟨i + 1,T2,by omega,by go_num,by omega,HI8⟩
   case measure => simp [intOf];omega
  ·have f1:¬ (i:Int) < (ps.length:Int):=by omega
   have HBf:=Lib.hid (HB1.out.trans (HI.out.below.mono HB1.out.size))
   clear HI hlt
   go_wp2
   go_ret
   exact ⟨rfl,HBf.out⟩
end Go.Proofs.YtclhbhhlddbocaaGreatDoor
