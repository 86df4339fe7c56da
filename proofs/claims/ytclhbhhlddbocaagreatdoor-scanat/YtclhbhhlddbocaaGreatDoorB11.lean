import Derived.Test.YtclhbhhlddbocaaGreatDoorB05
import Derived.Test.YtclhbhhlddbocaaGreatDoorB06
import Derived.Test.YtclhbhhlddbocaaGreatDoorB04
import Derived.Test.YtclhbhhlddbocaaGreatDoorB01
set_option maxRecDepth 100000
set_option maxHeartbeats 1000000
namespace Go.Proofs.YtclhbhhlddbocaaGreatDoor
open Go.RowKit
def numV (a:Nat):Except Nat (Nat × Nat) → Value
 | .error e => .tuple #[.int .u64 0,.int .i64 0,.int .i64 (e:Nat)]
 | .ok (n,k) => .tuple #[.int .u64 (n:Nat),.int .i64 ((a + k:Nat):Int),.int .i64 0]
theorem gotV_num (l:List UInt8) (a:Nat):gotV l (a:Int) = numV a (Sch.num (l.drop a)):=by
 by_cases ha:a < l.length
 ·by_cases h:(Leb.get (l.drop a)).err = 0
  ·have e:Leb.get (l.drop a) = ⟨0,(Leb.get (l.drop a)).n,(Leb.get (l.drop a)).k⟩:=by rw [← h]
   rw [gotV_ok l a _ _ e,Sch.num,if_pos h]
   simp only [numV]
   rfl
  ·have hb:=Leb.getF_bad 10 true (l.drop a) h
   have e:Leb.get (l.drop a) = ⟨(Leb.get (l.drop a)).err,0,0⟩:=by
    have h1:(Leb.get (l.drop a)).n = 0:=hb.1
    have h2:(Leb.get (l.drop a)).k = 0:=hb.2
    generalize Leb.get (l.drop a) = g at *
    cases g
    simp_all
   rw [gotV_bad l a _ h e,Sch.num,if_neg h]
   rfl
 ·rw [gotV_out l a (by omega),List.drop_eq_nil_of_le (by omega)]
  rfl
theorem refNum7 (p:Option Addr) (c:Nat) (l:List UInt8) (a:Nat) (hl:l.length ≤ 140737488351232) (w:World) (h:At w p l) :
  Calls Tryz.prog 145 #[.slice p l.length c,.int .i64 a] w fun e w' => e = .returned (numV a (Sch.num (l.drop a))) ∧ w' = w:=by
 rw [← gotV_num]
 exact refGet_any p c l a hl w h
def bitV (a:Nat):Except Nat (Nat × Nat) → Value
 | .error e => .tuple #[.int .i64 0,.int .i64 0,.int .i64 (e:Nat)]
 | .ok (n,k) => .tuple #[.int .i64 (n:Nat),.int .i64 ((a + k:Nat):Int),.int .i64 0]
theorem refBit7 (p:Option Addr) (l:List UInt8) (c a:Nat) (hl:l.length ≤ 140737488351232) (ha:a ≤ l.length) (w:World) (h:At w p l):Calls Tryz.prog 169 #[.slice p l.length c,.int .i64 a] w fun e w' => e = .returned (bitV a (Sch.bit (l.drop a))) ∧ w' = w:=by
 by_cases hlt:a < l.length
 ·obtain ⟨b,o,rfl,hb,hc⟩:=at_some h (by omega)
  have c0:=hc a hlt
  have h1:¬ (l.length:Int) ≤ (a:Int):=by omega
  have h1b:(a:Int) < (l.length:Int):=by omega
  have HD:Hid (Sch.bit (l.drop a) = if 1 < l[a].toNat then .error 5 else .ok (l[a].toNat,1)):=by
   show _ = _
   rw [List.drop_eq_getElem_cons hlt,Sch.bit]
  have h256:=l[a].toNat_lt
  generalize l[a].toNat = z at *
  clear hc h
  by_cases h2:1 < z
  ·have g2:(1:Int) < (z:Int):=by omega
   have HE:Hid (bitV a (Sch.bit (l.drop a)) = .tuple #[.int .i64 0,.int .i64 0,.int .i64 5]):=by show _ = _;rw [HD.out,if_pos h2];rfl
   clear HD h2
   go_enter Tryz.func169,Tryz.ntmps169
   go_wp2
   go_ret3
   exact ⟨by rw [HE.out];rfl,rfl⟩
  ·have g2:¬ (1:Int) < (z:Int):=by omega
   have HE:Hid (bitV a (Sch.bit (l.drop a)) = .tuple #[.int .i64 (z:Nat),.int .i64 ((a:Int) + 1),.int .i64 0]):=by show _ = _;rw [HD.out,if_neg h2];simp [bitV]
   clear HD h2
   go_enter Tryz.func169,Tryz.ntmps169
   go_wp2
   go_ret3
   exact ⟨by rw [HE.out];rfl,rfl⟩
 ·have h1:(l.length:Int) ≤ (a:Int):=by omega
  have HE:Hid (bitV a (Sch.bit (l.drop a)) = .tuple #[.int .i64 0,.int .i64 0,.int .i64 30]):=by show _ = _;rw [List.drop_eq_nil_of_le (by omega)];rfl
  clear h
  go_enter Tryz.func169,Tryz.ntmps169
  go_wp2
  go_ret3
  exact ⟨by rw [HE.out];rfl,rfl⟩
def textV (a:Nat):Except Nat (ByteArray × Nat) → Value
 | .error e => .tuple #[.string ⟨#[]⟩,.int .i64 0,.int .i64 (e:Nat)]
 | .ok (t,k) => .tuple #[.string t,.int .i64 ((a + k:Nat):Int),.int .i64 0]
theorem refText7 (p:Option Addr) (l:List UInt8) (c a m g:Nat) (hl:l.length ≤ 140737488351232) (hlc:l.length ≤ c) (ha:a ≤ l.length) (hm:m ≤ 1024) (w:World) (h:At w p l):Calls Tryz.prog 166 #[.slice p l.length c,.int .i64 a,.int .i64 m,.int .i64 g] w fun e w' => e = .returned (textV a (Sch.text m g (l.drop a))) ∧ w' = w:=by
 have HG:=Lib.hid (refNum7 p c l a hl w h)
 obtain ⟨R,hR⟩:∃ R,R = Sch.text m g (l.drop a):=⟨_,rfl⟩
 have HR:=Lib.hid (hR.trans (by rw [Sch.text]:Sch.text m g (l.drop a) = _))
 rw [← hR]
 clear hR
 cases hn:Sch.num (l.drop a) with
 | error e =>
  rw [hn] at HG HR
  have HE:Hid (R = .error e):=HR.out
  have he0:e ≠ 0:=by
   intro hc
   rw [Sch.num] at hn
   split at hn
   ·cases hn
   ·next h0 => injection hn with hn;rw [hn] at h0;exact h0 hc
  have g0:((e:Int) != 0) = true:=by rw [bne_iff_ne];omega
  clear HR hn h he0
  simp only [numV] at HG
  go_enter Tryz.func166,Tryz.ntmps166
  go_wp2_with fail
  refine HG.out.mono ?_
  rintro e w1 ⟨rfl,hw⟩
  rw [hw]
  clear hw w1
  go_wp2
  go_ret3
  exact ⟨by rw [HE.out];rfl,rfl⟩
 | ok nk =>
  obtain ⟨n,k⟩:=nk
  rw [hn] at HG HR
  obtain ⟨hn64,r,hr,hk⟩:=Sch.num_ok hn
  have hkl:k ≤ l.length - a:=by
   have:=congrArg List.length hr
   rw [List.length_drop,List.length_append,← hk] at this
   omega
  simp only [numV] at HG
  have hdl:(l.drop a).length = l.length - a:=List.length_drop
  simp only [hdl] at HR
  have hk1:1 ≤ k:=by rw [hk];exact Leb.put_length_pos n
  obtain ⟨b,o,rfl,hb,hc⟩:=at_some h (by omega)
  have hmi:(m:Int) ≤ 1024:=by omega
  have e1:((a + k:Nat):Int) = (a:Int) + (k:Int):=by omega
  rw [e1] at HG
  by_cases h1:m < n
  ·have g1:(m:Int) < (n:Int):=by omega
   have HE:Hid (R = .error g):=by show _ = _;rw [HR.out];exact if_pos h1
   clear HR hn h hc h1 hr hk e1
   go_enter Tryz.func166,Tryz.ntmps166
   go_wp2_with fail
   refine HG.out.mono ?_
   rintro e w1 ⟨rfl,hw⟩
   rw [hw]
   clear hw w1
   go_wp2
   go_ret3
   exact ⟨by rw [HE.out];rfl,rfl⟩
  have g1:¬ (m:Int) < (n:Int):=by omega
  have hni:(n:Int) ≤ 1024:=by omega
  by_cases h2:l.length - a - k < n
  ·have g2:(l.length:Int) - ((a:Int) + (k:Int)) < (n:Int):=by omega
   have HE:Hid (R = .error 30):=by show _ = _;rw [HR.out];exact (if_neg h1).trans (if_pos h2)
   clear HR hn h hc h1 h2 hr hk e1
   go_enter Tryz.func166,Tryz.ntmps166
   go_wp2_with fail
   refine HG.out.mono ?_
   rintro e w1 ⟨rfl,hw⟩
   rw [hw]
   clear hw w1
   go_wp2
   go_ret3
   exact ⟨by rw [HE.out];rfl,rfl⟩
  have g2:¬ (l.length:Int) - ((a:Int) + (k:Int)) < (n:Int):=by omega
  obtain ⟨x,hx⟩:∃ x,x = ((l.drop a).drop k).take n:=⟨_,rfl⟩
  have hxl:x.length = n:=by rw [hx,List.length_take,List.length_drop,List.length_drop];omega
  have HE:Hid (R = .ok (textOf x,k + n)):=by show _ = _;rw [HR.out,hx];exact (if_neg h1).trans (if_neg h2)
  have hat:At w (some ⟨b,o + (a + k),none⟩) x:=by
   refine .inr ⟨b,_,rfl,hb,?_⟩
   rw [hx,List.drop_drop]
   exact cells_take (cells_drop hc (a + k)) n
  have hcv:=fun cc => conv_str hat cc
  rw [hxl] at hcv
  have hcv0:c = a + k → ∀ cc,(convert 25 9 (.slice (some ⟨b,o,none⟩) n cc)).run Tryz.prog w = .ok (.string (textOf x)) w:=fun hce cc => by
   have hn0:n = 0:=by omega
   have hx0:x = []:=List.eq_nil_of_length_eq_zero (by omega)
   have:=conv_str (w:=w) (p:=some ⟨b,o,none⟩) (l:=[]) (.inl rfl) cc
   rw [hn0,hx0]
   exact this
  have HCV0:=Lib.hid hcv0
  have HFin:Hid (textV a R = .tuple #[.string (textOf x),.int .i64 ((a:Int) + (k:Int) + (n:Int)),.int .i64 0]):=by
   show _ = _
   rw [HE.out]
   simp only [textV]
   rw [show ((a + (k + n):Nat):Int) = (a:Int) + (k:Int) + (n:Int) by omega]
  clear HR hn h hc h1 h2 hr hk e1 hat hx hcv0 HE
  by_cases hcap:c = a + k
  ·have hcv1:=HCV0.out hcap
   clear HCV0 hcv
   subst hcap
   go_enter Tryz.func166,Tryz.ntmps166
   go_wp2_with fail
   refine HG.out.mono ?_
   rintro e w1 ⟨rfl,hw⟩
   rw [hw]
   clear hw w1
   go_wp2
   go_ret3
   exact ⟨by rw [HFin.out];rfl,rfl⟩
  ·have hcap2:¬ a + k = c:=fun hc => hcap hc.symm
   clear HCV0
   go_enter Tryz.func166,Tryz.ntmps166
   go_wp2_with fail
   refine HG.out.mono ?_
   rintro e w1 ⟨rfl,hw⟩
   rw [hw]
   clear hw w1
   go_wp2
   go_ret3
   exact ⟨by rw [HFin.out];rfl,rfl⟩
def floatV (a:Nat):Except Nat (Nat × Nat) → Value
 | .error e => .tuple #[.float .f64 0,.int .i64 0,.int .i64 (e:Nat)]
 | .ok (n,k) => .tuple #[.float .f64 n,.int .i64 ((a + k:Nat):Int),.int .i64 0]
theorem un_drop (l:List UInt8) (i:Nat) (h:i < l.length):Sch.un (l.drop i) = Sch.un (l.drop (i + 1)) * 256 + l[i].toNat:=by
 rw [List.drop_eq_getElem_cons h,Sch.un]
theorem refFloat7 (p:Option Addr) (l:List UInt8) (c a:Nat) (hl:l.length ≤ 140737488351232) (ha:a ≤ l.length) (w:World) (h:At w p l):Calls Tryz.prog 209 #[.slice p l.length c,.int .i64 a] w fun e w' => e = .returned (floatV a (Sch.float (l.drop a))) ∧ w' = w:=by
 by_cases h8:l.length - a < 8
 ·have g8:(l.length:Int) - (a:Int) < 8:=by omega
  have HE:Hid (floatV a (Sch.float (l.drop a)) = .tuple #[.float .f64 0,.int .i64 0,.int .i64 30]):=by show _ = _;rw [Sch.float,if_pos (by rw [List.length_drop];exact h8)];rfl
  clear h h8
  go_enter Tryz.func209,Tryz.ntmps209
  go_wp2
  go_ret3
  exact ⟨by rw [HE.out];rfl,rfl⟩
 have g8:¬ (l.length:Int) - (a:Int) < 8:=by omega
 obtain ⟨b,o,rfl,hb,hc⟩:=at_some h (by omega)
 obtain ⟨x,hx⟩:∃ x,x = (l.drop a).take 8:=⟨_,rfl⟩
 have hxl:x.length = 8:=by rw [hx,List.length_take,List.length_drop];omega
 have HC:Hid (∀ i (hi:i < x.length),w.cell? ⟨b,o + (a + i),none⟩ = some (.int .u8 (x[i].toNat:Int))):=fun i hi => by
  rw [hc (a + i) (by omega)]
  simp only [hx,List.getElem_take,List.getElem_drop]
 have HR:Hid (Sch.float (l.drop a) = if fixB (Sch.un x) = Sch.un x then .ok (Sch.un x,8) else .error 5):=by show _ = _;rw [Sch.float,if_neg (by rw [List.length_drop];exact h8),← hx]
 have hun:Sch.un x < 18446744073709551616:=by have:=Sch.un_lt x;rw [hxl] at this;simpa using this
 have HLt:Hid (∀ i,i ≤ 8 → Sch.un (x.drop i) * 256 ^ i ≤ Sch.un x):=by
  intro i hi
  induction i with
  | zero => simp
  | succ i ih =>
   have h1:=ih (by omega)
   rw [un_drop x i (by omega),Nat.add_mul] at h1
   rw [Nat.pow_succ]
   have:Sch.un (x.drop (i + 1)) * (256 ^ i * 256) = Sch.un (x.drop (i + 1)) * 256 * 256 ^ i:=by rw [Nat.mul_comm (256 ^ i) 256,Nat.mul_assoc]
   omega
 clear h hc hx h8
 go_enter Tryz.func209,Tryz.ntmps209
 go_wp2_with fail
 go_loop [7,8] (fun v7 v8 => (∃ i:Nat,i ≤ 7 ∧ v8 = .int .i64 i ∧ v7 = .int .u64 (Sch.un (x.drop (i + 1)):Nat)) ∨ (v8 = .int .i64 (-1) ∧ v7 = .int .u64 (Sch.un x:Nat))) (fun _ v8 => (intOf v8 + 1).toNat)
 case atStart => exact .inl ⟨7,by omega,rfl,by rw [List.drop_eq_nil_of_le (by omega)];rfl⟩
 case round =>
  rcases hrel with ⟨i,hi,rfl,rfl⟩ | ⟨rfl,rfl⟩
  ·have a0:=HC.out i (by omega)
   have hx0:=un_drop x i (by omega)
   have hle:=HLt.out i (by omega)
   have hp1:1 ≤ 256 ^ i:=Nat.one_le_pow _ _ (by decide)
   have hle2:Sch.un (x.drop i) ≤ Sch.un x:=Nat.le_trans (Nat.le_mul_of_pos_right _ (by omega)) hle
   have hy:=(x[i]'(by omega)).toNat_lt
   obtain ⟨z,hz⟩:∃ z,z = Sch.un (x.drop (i + 1)):=⟨_,rfl⟩
   obtain ⟨y,hyy⟩:∃ y,y = (x[i]'(by omega)).toNat:=⟨_,rfl⟩
   rw [← hz] at hx0 ⊢
   rw [← hyy] at hx0 a0 hy
   have HX0:=Lib.hid hx0
   have hb1:z * 256 + y < 18446744073709551616:=by omega
   have h0i:(0:Int) ≤ (i:Int):=by omega
   have hib:(a:Int) + (i:Int) < (l.length:Int):=by omega
   clear hle hle2 hp1 hx0 hz hyy
   go_wp2
   go_round
   case rel =>
    by_cases hi0:i = 0
    ·subst hi0
     right
     refine ⟨by go_num,?_⟩
     have e:=HX0.out
     rw [List.drop_zero] at e
     rw [e]
     go_num
    ·left
     refine ⟨i - 1,by omega,by go_num,?_⟩
     rw [show i - 1 + 1 = i by omega,HX0.out]
     go_num
   case measure => simp [intOf]
  ·have HOf:=Lib.hid (refOf_any (Sch.un x:Nat) w)
   have HBt:=Lib.hid (refBits_any (fixB (Sch.un x)) w)
   rw [Int.toNat_natCast] at HOf
   rw [fixB_idem] at HBt
   obtain ⟨n,hn⟩:∃ n,n = Sch.un x:=⟨_,rfl⟩
   rw [← hn] at HR HOf HBt hun ⊢
   clear hn HC HLt
   go_wp2_with fail
   refine HOf.out.mono ?_
   rintro e w1 ⟨rfl,hw⟩
   rw [hw]
   clear hw w1
   go_wp2_with fail
   refine HBt.out.mono ?_
   rintro e w1 ⟨rfl,hw⟩
   rw [hw]
   clear hw w1
   by_cases hf:fixB n = n
   ·have gf:((fixB n:Int) != (n:Int)) = false:=bne_f (by omega)
    have HE:Hid (floatV a (Sch.float (l.drop a)) = .tuple #[.float .f64 (fixB n),.int .i64 ((a:Int) + 8),.int .i64 0]):=by
     show _ = _
     rw [HR.out,if_pos hf,hf]
     simp [floatV]
    clear HR hf HOf HBt
    go_wp2
    go_ret3
    exact ⟨by rw [HE.out];rfl,rfl⟩
   ·have gf:((fixB n:Int) != (n:Int)) = true:=bne_t (by omega)
    have HE:Hid (floatV a (Sch.float (l.drop a)) = .tuple #[.float .f64 0,.int .i64 0,.int .i64 5]):=by show _ = _;rw [HR.out,if_neg hf];rfl
    clear HR hf HOf HBt
    go_wp2
    go_ret3
    exact ⟨by rw [HE.out];rfl,rfl⟩
end Go.Proofs.YtclhbhhlddbocaaGreatDoor
namespace Go.Proofs.YtclhbhhlddbocaaGreatDoor
open Go.RowKit
attribute [local go_sem] run_store_float
def ReadV (w:World) (a:Nat) (r:Except Nat (V × Nat)) (e:Ending) (w':World):Prop:=match r with
 | .error er => e = .returned (.tuple #[.agg (cells5 0 0 0 ⟨#[]⟩ none 0 0),.int .i64 0,.int .i64 (er:Nat)]) ∧ Below w.heap.size w w'
 | .ok (v,k) => ∃ u,e = .returned (.tuple #[.agg u,.int .i64 ((a + k:Nat):Int),.int .i64 0]) ∧ VOwn w' (fun k => w.heap.size ≤ k ∧ k < w'.heap.size) u v ∧ Below w.heap.size w w'
theorem bit_err {l:List UInt8} {e:Nat} (h:Sch.bit l = .error e):e ≠ 0:=by
 cases l with
 | nil => rw [Sch.bit] at h;injection h with h;omega
 | cons c r =>
  rw [Sch.bit] at h
  split at h
  ·injection h with h;omega
  ·cases h
theorem num_err {l:List UInt8} {e:Nat} (h:Sch.num l = .error e):e ≠ 0:=by
 intro hc
 rw [Sch.num] at h
 split at h
 ·cases h
 ·next h0 => injection h with h;rw [h] at h0;exact h0 hc
theorem float_err {l:List UInt8} {e:Nat} (h:Sch.float l = .error e):e ≠ 0:=by
 rw [Sch.float] at h
 split at h
 ·injection h with h;omega
 ·split at h
  ·cases h
  ·injection h with h;omega
theorem text_err {m g:Nat} (hg:g ≠ 0) {l:List UInt8} {e:Nat} (h:Sch.text m g l = .error e):e ≠ 0:=by
 rw [Sch.text] at h
 split at h
 ·next e' he => injection h with h;rw [← h];exact num_err he
 ·split at h
  ·injection h with h;omega
  ·split at h
   ·injection h with h;omega
   ·cases h
theorem blk_first (w:World) (o o2:Obj):((w.alloc o).alloc o2).heap[w.heap.size]? = some o:=by rw [blk_old _ _ (by simp)];exact blk_new w o
theorem refScal_1 (p:Option Addr) (l:List UInt8) (c a:Nat) (hl:l.length ≤ 140737488351232) (ha:a ≤ l.length) (w:World) (h:At w p l):Calls Tryz.prog 190 #[.int .i64 1,.slice p l.length c,.int .i64 a] w (ReadV w a (Sch.scalar 1 (l.drop a))):=by
 have HG:=Lib.hid (fun w' (hb:Below w.heap.size w w') => refBit7 p l c a hl ha w' (h.on hb))
 have HB:Hid (∀ o o2,Below w.heap.size w ((w.alloc o).alloc o2)):=fun o o2 => ((Below.refl _ _).alloc (Nat.le_refl _) _).alloc (by simp) _
 cases hn:Sch.bit (l.drop a) with
 | error er =>
  have HR:Hid (Sch.scalar 1 (l.drop a) = .error er):=by show _ = _;rw [Sch.scalar,if_pos rfl,hn]
  rw [hn] at HG
  have g0:((er:Int) != 0) = true:=by have:=bit_err hn;rw [bne_iff_ne];omega
  clear h hn
  simp only [bitV] at HG
  rw [HR.out]
  go_enter Tryz.func190,Tryz.ntmps190
  go_wp2_with fail
  refine (HG.out _ (HB.out _ _)).mono ?_
  rintro e w1 ⟨rfl,hw⟩
  rw [hw]
  clear hw w1
  go_wp2
  refine bodyPost_ret (results_row3 rfl _ _ w.heap.size _ _ _ _ rfl (blk_first w _ _) Tryz.underlying131 rfl (by kernel_rfl)) rfl ?_
  exact ⟨rfl,HB.out _ _⟩
 | ok nk =>
  obtain ⟨n,k⟩:=nk
  have HR:Hid (Sch.scalar 1 (l.drop a) = .ok (.mk 1 n 0 ⟨#[]⟩ [],k)):=by show _ = _;rw [Sch.scalar,if_pos rfl,hn]
  rw [hn] at HG
  simp only [bitV] at HG
  rw [HR.out]
  clear h hn
  go_enter Tryz.func190,Tryz.ntmps190
  go_wp2_with fail
  refine (HG.out _ (HB.out _ _)).mono ?_
  rintro e w1 ⟨rfl,hw⟩
  rw [hw]
  clear hw w1
  go_wp2
  refine bodyPost_ret (results_row3 rfl _ _ w.heap.size _ _ _ _ rfl (blk_first w _ _) Tryz.underlying131 rfl (by kernel_rfl)) rfl ?_
  exact ⟨_,by rw [show ((a + k:Nat):Int) = (a:Int) + (k:Int) by omega];rfl,.none,HB.out _ _⟩
theorem refScal_2 (p:Option Addr) (l:List UInt8) (c a:Nat) (hl:l.length ≤ 140737488351232) (_:a ≤ l.length) (w:World) (h:At w p l):Calls Tryz.prog 190 #[.int .i64 2,.slice p l.length c,.int .i64 a] w (ReadV w a (Sch.scalar 2 (l.drop a))):=by
 have HG:=Lib.hid (fun w' (hb:Below w.heap.size w w') => refNum7 p c l a hl w' (h.on hb))
 have HB:Hid (∀ o o2,Below w.heap.size w ((w.alloc o).alloc o2)):=fun o o2 => ((Below.refl _ _).alloc (Nat.le_refl _) _).alloc (by simp) _
 cases hn:Sch.num (l.drop a) with
 | error er =>
  have HR:Hid (Sch.scalar 2 (l.drop a) = .error er):=by show _ = _;rw [Sch.scalar,if_neg (by decide),if_pos rfl,hn]
  rw [hn] at HG
  have g0:((er:Int) != 0) = true:=by have:=num_err hn;rw [bne_iff_ne];omega
  clear h hn
  simp only [numV] at HG
  rw [HR.out]
  go_enter Tryz.func190,Tryz.ntmps190
  go_wp2_with fail
  refine (HG.out _ (HB.out _ _)).mono ?_
  rintro e w1 ⟨rfl,hw⟩
  rw [hw]
  clear hw w1
  go_wp2_with fail
  refine (refZag_any 0 (by decide) _).mono ?_
  rintro e w1 ⟨rfl,hw⟩
  rw [hw]
  clear hw w1
  go_wp2
  refine bodyPost_ret (results_row3 rfl _ _ w.heap.size _ _ _ _ rfl (blk_first w _ _) Tryz.underlying131 rfl (by kernel_rfl)) rfl ?_
  exact ⟨rfl,HB.out _ _⟩
 | ok nk =>
  obtain ⟨n,k⟩:=nk
  have HR:Hid (Sch.scalar 2 (l.drop a) = .ok (.mk 2 (Leb.zag n) 0 ⟨#[]⟩ [],k)):=by show _ = _;rw [Sch.scalar,if_neg (by decide),if_pos rfl,hn]
  rw [hn] at HG
  simp only [numV] at HG
  have hn64:=(Sch.num_ok hn).1
  have HZ:=Lib.hid (refZag_any n hn64)
  rw [HR.out]
  clear h hn
  go_enter Tryz.func190,Tryz.ntmps190
  go_wp2_with fail
  refine (HG.out _ (HB.out _ _)).mono ?_
  rintro e w1 ⟨rfl,hw⟩
  rw [hw]
  clear hw w1
  go_wp2_with fail
  refine (HZ.out _).mono ?_
  rintro e w1 ⟨rfl,hw⟩
  rw [hw]
  clear hw w1
  go_wp2
  refine bodyPost_ret (results_row3 rfl _ _ w.heap.size _ _ _ _ rfl (blk_first w _ _) Tryz.underlying131 rfl (by kernel_rfl)) rfl ?_
  exact ⟨_,by rw [show ((a + k:Nat):Int) = (a:Int) + (k:Int) by omega];rfl,.none,HB.out _ _⟩
theorem refScal_3 (p:Option Addr) (l:List UInt8) (c a:Nat) (hl:l.length ≤ 140737488351232) (ha:a ≤ l.length) (w:World) (h:At w p l):Calls Tryz.prog 190 #[.int .i64 3,.slice p l.length c,.int .i64 a] w (ReadV w a (Sch.scalar 3 (l.drop a))):=by
 have HG:=Lib.hid (fun w' (hb:Below w.heap.size w w') => refFloat7 p l c a hl ha w' (h.on hb))
 have HB:Hid (∀ o o2,Below w.heap.size w ((w.alloc o).alloc o2)):=fun o o2 => ((Below.refl _ _).alloc (Nat.le_refl _) _).alloc (by simp) _
 cases hn:Sch.float (l.drop a) with
 | error er =>
  have HR:Hid (Sch.scalar 3 (l.drop a) = .error er):=by show _ = _;rw [Sch.scalar,if_neg (by decide),if_neg (by decide),if_pos rfl,hn]
  rw [hn] at HG
  have g0:((er:Int) != 0) = true:=by have:=float_err hn;rw [bne_iff_ne];omega
  clear h hn
  simp only [floatV] at HG
  rw [HR.out]
  go_enter Tryz.func190,Tryz.ntmps190
  go_wp2_with fail
  refine (HG.out _ (HB.out _ _)).mono ?_
  rintro e w1 ⟨rfl,hw⟩
  rw [hw]
  clear hw w1
  go_wp2
  refine bodyPost_ret (results_row3 rfl _ _ w.heap.size _ _ _ _ rfl (blk_first w _ _) Tryz.underlying131 rfl (by kernel_rfl)) rfl ?_
  exact ⟨rfl,HB.out _ _⟩
 | ok nk =>
  obtain ⟨n,k⟩:=nk
  have HR:Hid (Sch.scalar 3 (l.drop a) = .ok (.mk 3 0 n ⟨#[]⟩ [],k)):=by show _ = _;rw [Sch.scalar,if_neg (by decide),if_neg (by decide),if_pos rfl,hn]
  rw [hn] at HG
  simp only [floatV] at HG
  rw [HR.out]
  clear h hn
  go_enter Tryz.func190,Tryz.ntmps190
  go_wp2_with fail
  refine (HG.out _ (HB.out _ _)).mono ?_
  rintro e w1 ⟨rfl,hw⟩
  rw [hw]
  clear hw w1
  go_wp2
  refine bodyPost_ret (results_row3 rfl _ _ w.heap.size _ _ _ _ rfl (blk_first w _ _) Tryz.underlying131 rfl (by kernel_rfl)) rfl ?_
  exact ⟨_,by rw [show ((a + k:Nat):Int) = (a:Int) + (k:Int) by omega];rfl,.none,HB.out _ _⟩
theorem refScal_45 (kd:Int) (hk:kd = 4 ∨ kd = 5) (p:Option Addr) (l:List UInt8) (c a:Nat) (hl:l.length ≤ 140737488351232) (hlc:l.length ≤ c) (ha:a ≤ l.length) (w:World) (h:At w p l):Calls Tryz.prog 190 #[.int .i64 kd,.slice p l.length c,.int .i64 a] w (ReadV w a (Sch.scalar kd (l.drop a))):=by
 have HG:=Lib.hid (fun w' (hb:Below w.heap.size w w') => refText7 p l c a 1024 2 hl hlc ha (by omega) w' (h.on hb))
 have HB:Hid (∀ o o2,Below w.heap.size w ((w.alloc o).alloc o2)):=fun o o2 => ((Below.refl _ _).alloc (Nat.le_refl _) _).alloc (by simp) _
 have hsc:Sch.scalar kd (l.drop a) = match Sch.text 1024 2 (l.drop a) with
   | .error e => .error e
   | .ok (t,j) => if kd = 4 ∧ utfT t = false then .error 61 else .ok (.mk kd 0 0 t [],j):=by
  rw [Sch.scalar,if_neg (by omega),if_neg (by omega),if_neg (by omega)]
  rfl
 cases hn:Sch.text 1024 2 (l.drop a) with
 | error er =>
  have HR:Hid (Sch.scalar kd (l.drop a) = .error er):=by show _ = _;rw [hsc,hn]
  rw [hn] at HG
  have g0:((er:Int) != 0) = true:=by have:=text_err (by decide) hn;rw [bne_iff_ne];omega
  have HU:=Lib.hid (refUtf6 ⟨#[]⟩ (Nat.zero_le _))
  have eu:U8.utf (⟨#[]⟩:ByteArray).data.toList = true:=rfl
  rw [eu] at HU
  clear h hn hsc eu
  simp only [textV] at HG
  rw [HR.out]
  rcases hk with rfl | rfl
  all_goals
   go_enter Tryz.func190,Tryz.ntmps190
   go_wp2_with fail
   refine (HG.out _ (HB.out _ _)).mono ?_
   rintro e w1 ⟨rfl,hw⟩
   rw [hw]
   clear hw w1
   go_wp2_with fail
   refine (HU.out _).mono ?_
   rintro e w1 ⟨rfl,hw⟩
   rw [hw]
   clear hw w1
   go_wp2
   refine bodyPost_ret (results_row3 rfl _ _ w.heap.size _ _ _ _ rfl (blk_first w _ _) Tryz.underlying131 rfl (by kernel_rfl)) rfl ?_
   exact ⟨rfl,HB.out _ _⟩
 | ok tk =>
  obtain ⟨t,k⟩:=tk
  have hsc2:Sch.scalar kd (l.drop a) = if kd = 4 ∧ utfT t = false then .error 61 else .ok (.mk kd 0 0 t [],k):=by rw [hsc,hn]
  have ht:=(Sch.text_ok hn).1
  rw [hn] at HG
  simp only [textV] at HG
  have HU:=Lib.hid (refUtf6 t (by omega))
  obtain ⟨ru,hru⟩:∃ ru,ru = utfT t:=⟨_,rfl⟩
  have e1:U8.utf t.data.toList = ru:=hru.symm
  rw [e1] at HU
  rw [← hru] at hsc2
  have HR:=Lib.hid hsc2
  rw [HR.out]
  clear h hn hsc hsc2 e1 hru ht
  rcases hk with rfl | rfl
  ·cases ru with
   | false =>
    rw [if_pos ⟨rfl,rfl⟩]
    go_enter Tryz.func190,Tryz.ntmps190
    go_wp2_with fail
    refine (HG.out _ (HB.out _ _)).mono ?_
    rintro e w1 ⟨rfl,hw⟩
    rw [hw]
    clear hw w1
    go_wp2_with fail
    refine (HU.out _).mono ?_
    rintro e w1 ⟨rfl,hw⟩
    rw [hw]
    clear hw w1
    go_wp2
    refine bodyPost_ret (results_row3 rfl _ _ w.heap.size _ _ _ _ rfl (blk_first w _ _) Tryz.underlying131 rfl (by kernel_rfl)) rfl ?_
    exact ⟨rfl,HB.out _ _⟩
   | true =>
    rw [if_neg (by decide)]
    go_enter Tryz.func190,Tryz.ntmps190
    go_wp2_with fail
    refine (HG.out _ (HB.out _ _)).mono ?_
    rintro e w1 ⟨rfl,hw⟩
    rw [hw]
    clear hw w1
    go_wp2_with fail
    refine (HU.out _).mono ?_
    rintro e w1 ⟨rfl,hw⟩
    rw [hw]
    clear hw w1
    go_wp2
    refine bodyPost_ret (results_row3 rfl _ _ w.heap.size _ _ _ _ rfl (blk_first w _ _) Tryz.underlying131 rfl (by kernel_rfl)) rfl ?_
    exact ⟨_,by rw [show ((a + k:Nat):Int) = (a:Int) + (k:Int) by omega];rfl,.none,HB.out _ _⟩
  ·rw [if_neg (fun hc => absurd hc.1 (by decide))]
   go_enter Tryz.func190,Tryz.ntmps190
   go_wp2_with fail
   refine (HG.out _ (HB.out _ _)).mono ?_
   rintro e w1 ⟨rfl,hw⟩
   rw [hw]
   clear hw w1
   go_wp2_with fail
   refine (HU.out _).mono ?_
   rintro e w1 ⟨rfl,hw⟩
   rw [hw]
   clear hw w1
   go_wp2
   refine bodyPost_ret (results_row3 rfl _ _ w.heap.size _ _ _ _ rfl (blk_first w _ _) Tryz.underlying131 rfl (by kernel_rfl)) rfl ?_
   exact ⟨_,by rw [show ((a + k:Nat):Int) = (a:Int) + (k:Int) by omega];rfl,.none,HB.out _ _⟩
theorem refScalar7 (kd:Int) (hk:1 ≤ kd ∧ kd ≤ 5) (p:Option Addr) (l:List UInt8) (c a:Nat) (hl:l.length ≤ 140737488351232) (hlc:l.length ≤ c) (ha:a ≤ l.length) (w:World) (h:At w p l):Calls Tryz.prog 190 #[.int .i64 kd,.slice p l.length c,.int .i64 a] w (ReadV w a (Sch.scalar kd (l.drop a))):=by
 rcases (show kd = 1 ∨ kd = 2 ∨ kd = 3 ∨ (kd = 4 ∨ kd = 5) by omega) with rfl | rfl | rfl | hk45
 ·exact refScal_1 p l c a hl ha w h
 ·exact refScal_2 p l c a hl ha w h
 ·exact refScal_3 p l c a hl ha w h
 ·exact refScal_45 kd hk45 p l c a hl hlc ha w h
end Go.Proofs.YtclhbhhlddbocaaGreatDoor
namespace Go.Proofs.YtclhbhhlddbocaaGreatDoor
open Go.RowKit
attribute [local go_sem] run_store_float
theorem many_err {k:Int} {l:List UInt8} {e:Nat} (h:Sch.many k l = .error e):e ≠ 0:=by
 rw [Sch.many] at h
 split at h
 ·exact bit_err h
 ·split at h
  ·next e' he => injection h with h;rw [← h];exact num_err he
  ·split at h
   ·injection h with h;omega
   ·cases h
theorem scalar_err {k:Int} {l:List UInt8} {e:Nat} (h:Sch.scalar k l = .error e):e ≠ 0:=by
 rw [Sch.scalar] at h
 split at h
 ·split at h
  ·next e' he => injection h with h;rw [← h];exact bit_err he
  ·cases h
 split at h
 ·split at h
  ·next e' he => injection h with h;rw [← h];exact num_err he
  ·cases h
 split at h
 ·split at h
  ·next e' he => injection h with h;rw [← h];exact float_err he
  ·cases h
 split at h
 ·next e' he => injection h with h;rw [← h];exact text_err (by decide) he
 ·split at h
  ·injection h with h;omega
  ·cases h
theorem rdN_err {f:List UInt8 → Except Nat (V × Nat)} (hf:∀ l e,f l = .error e → e ≠ 0):∀ (m:Nat) (l:List UInt8) (e:Nat),Sch.rdN f m l = .error e → e ≠ 0
 | 0,l,e,h => by rw [Sch.rdN] at h;cases h
 | m + 1,l,e,h => by
  rw [Sch.rdN] at h
  split at h
  ·next e' he => injection h with h;rw [← h];exact hf l e' he
  ·next v j hv =>
   split at h
   ·next e' he => injection h with h;rw [← h];exact rdN_err hf m _ _ he
   ·cases h
theorem rdV_err:∀ (t:Ty) (d:Nat) (l:List UInt8) (e:Nat),Ty.check d t = 0 → Sch.rdV t l = .error e → e ≠ 0:=by
 intro t
 refine Ty.ind (P:=fun t => ∀ (d:Nat) (l:List UInt8) (e:Nat),Ty.check d t = 0 → Sch.rdV t l = .error e → e ≠ 0) ?_ t
 intro k xs ih d l e ht h
 obtain ⟨hd,hk,htt⟩:=Sch.ty_open ht
 rw [Sch.rdV_mk] at h
 rcases htt with ⟨h67,rfl⟩ | ⟨h67,x,rfl,hx⟩
 ·rw [if_pos (by omega)] at h
  exact scalar_err h
 ·rw [if_neg (by omega)] at h
  split at h
  ·next e' he => injection h with h;rw [← h];exact many_err he
  ·split at h
   ·next e' he =>
    injection h with h
    rw [← h]
    exact rdN_err (fun l e he => ih x (by simp) (d + 1) l e hx he) _ _ _ he
   ·cases h
def glue (ys:List V) (n:Nat):Except Nat (List V × Nat) → Except Nat (List V × Nat)
 | .error e => .error e
 | .ok (vs,k) => .ok (ys ++ vs,n + k)
theorem glue_glue (ys:List V) (n:Nat) (v:V) (j:Nat) (r:Except Nat (List V × Nat)):glue ys n (glue [v] j r) = glue (ys ++ [v]) (n + j) r:=by
 cases r with
 | error e => rfl
 | ok p => simp [glue,Nat.add_assoc]
def stepR (f:List UInt8 → Except Nat (V × Nat)) (m:Nat) (l:List UInt8):Except Nat (V × Nat) → Except Nat (List V × Nat)
 | .error e => .error e
 | .ok (v,j) => glue [v] j (Sch.rdN f m (l.drop j))
theorem rdN_succ (f:List UInt8 → Except Nat (V × Nat)) (m:Nat) (l:List UInt8):Sch.rdN f (m + 1) l = stepR f m l (f l):=by
 rw [Sch.rdN]
 cases f l with
 | error e => rfl
 | ok p =>
  obtain ⟨v,j⟩:=p
  rw [stepR]
  dsimp only
  cases Sch.rdN f m (l.drop j) with
  | error e => rfl
  | ok q => rfl
theorem blk_second (w:World) (o o2:Obj):((w.alloc o).alloc o2).heap[w.heap.size + 1]? = some o2:=by
 have:=blk_new (w.alloc o) o2
 simpa using this
theorem put5_fin {w W1 w1:World} {k i:Int} {b:Nat} {t:ByteArray} {q:Option Addr} {n c:Nat} {v:V} {F:Nat → Prop} (h1:w1.heap[w.heap.size + 1]? = some (.cells (cells5 0 0 0 ⟨#[]⟩ none 0 0) 131 (0,0))) (hW:Below w.heap.size w W1) (hs:w.heap.size + 2 ≤ W1.heap.size) (hb:Below w.heap.size W1 w1) (hsz:W1.heap.size ≤ w1.heap.size) (hv:VOwn w1 F (cells5 k i b t q n c) v) (hF:∀ j,F j → w.heap.size + 2 ≤ j ∧ j < w1.heap.size) :
  (put5 w1 (w.heap.size + 1) k i b t (.slice q n c)).heap[w.heap.size + 1]? = some (.cells (cells5 k i b t q n c) 131 (0,0)) ∧ VOwn (put5 w1 (w.heap.size + 1) k i b t (.slice q n c)) (fun j => w.heap.size ≤ j ∧ j < (put5 w1 (w.heap.size + 1) k i b t (.slice q n c)).heap.size) (cells5 k i b t q n c) v ∧ Below w.heap.size w (put5 w1 (w.heap.size + 1) k i b t (.slice q n c)):=by
 have hA:Aside (fun k => k = w.heap.size + 1) w1 (put5 w1 (w.heap.size + 1) k i b t (.slice q n c)):=by
  unfold put5
  exact (((((Aside.refl (fun k => k = w.heap.size + 1) w1).setCell (p:=⟨w.heap.size + 1,0,none⟩) (.inl rfl) _).setCell (p:=⟨w.heap.size + 1,1,none⟩) (.inl rfl) _).setCell (p:=⟨w.heap.size + 1,2,none⟩) (.inl rfl) _).setCell (p:=⟨w.heap.size + 1,3,none⟩) (.inl rfl) _).setCell (p:=⟨w.heap.size + 1,4,none⟩) (.inl rfl) _
 refine ⟨?_,?_,?_⟩
 ·unfold put5
  rw [blk_set (blk_set (blk_set (blk_set (blk_set h1 0 _) 1 _) 2 _) 3 _) 4 _]
  rfl
 ·exact (hv.aside hA (fun k hk hc => by have:=hF k hk;omega)).mono (fun j hj => ⟨by have:=hF j hj;omega,by have:=hF j hj;have:=hA.size;omega⟩)
 ·exact (hW.trans hb).trans (hA.below (by omega) (fun k hk hc => by omega))
structure MakingV (w:World) (C0:Array Value) (k:Int) (ys:List V) (v:Value) (wr:World):Prop where
 built:∃ us Fs,Built wr (w.heap.size + 3) v ys.length us Fs ys
 b0:wr.heap[w.heap.size]? = some (.cells C0 127 (0,0))
 b1:wr.heap[w.heap.size + 1]? = some (.cells (cells5 0 0 0 ⟨#[]⟩ none 0 0) 131 (0,0))
 b2:wr.heap[w.heap.size + 2]? = some (.cells #[.int .i64 k,.int .i64 0,.float .f64 0,.string ⟨#[]⟩,v] 131 (0,0))
 below:Below w.heap.size w wr
 size:w.heap.size + 3 ≤ wr.heap.size
section
variable {w wr:World} {C0:Array Value} {k:Int} {ys:List V} {v:Value}
theorem makingV_start (w:World) (C0:Array Value) (k:Int) :
  MakingV w C0 k [] (.slice none 0 0) (((w.alloc (.cells C0 127)).alloc (.cells (cells5 0 0 0 ⟨#[]⟩ none 0 0) 131)).alloc (.cells #[.int .i64 k,.int .i64 0,.float .f64 0,.string ⟨#[]⟩,.slice none 0 0] 131)):=by
 refine ⟨⟨_,_,built_nil _ _⟩,?_,?_,?_,((((Below.refl _ w).alloc (Nat.le_refl _) _).alloc (by simp) _).alloc (by simp;omega) _),by simp⟩
 ·rw [blk_old _ _ (by simp;omega),blk_old _ _ (by simp)];exact blk_new w _
 ·rw [blk_old _ _ (by simp)]
  have:=blk_new (w.alloc (.cells C0 127)) (.cells (cells5 0 0 0 ⟨#[]⟩ none 0 0) 131)
  simpa using this
 ·have:=blk_new ((w.alloc (.cells C0 127)).alloc (.cells (cells5 0 0 0 ⟨#[]⟩ none 0 0) 131)) (.cells #[.int .i64 k,.int .i64 0,.float .f64 0,.string ⟨#[]⟩,.slice none 0 0] 131)
  simpa using this
theorem MakingV.slice (h:MakingV w C0 k ys v wr):∃ p c,v = .slice p ys.length c:=by
 obtain ⟨us,Fs,hb⟩:=h.built
 rcases hb.row.2 with ⟨h1,h2⟩ | ⟨g,cap,cur,h1,_⟩
 ·exact ⟨none,0,by rw [h1,h2]⟩
 ·exact ⟨_,cap,h1⟩
theorem MakingV.next {w2 w3 w4:World} {u:Array Value} {F:Nat → Prop} {g cap:Nat} {us:Nat → Array Value} {Fs:Nat → Nat → Prop} {y:V} (h:MakingV w C0 k ys v wr) (hbt:Built wr (w.heap.size + 3) v ys.length us Fs ys) (hb:Below wr.heap.size wr w2) (hx:VOwn w2 F u y)
  (hF:∀ k,F k → wr.heap.size ≤ k ∧ k < w2.heap.size) (hb3:Below w2.heap.size w2 w3)
  (hr:w4.ownsRow (w.heap.size + 3) 131 5 (.slice (some ⟨g,0,none⟩) (ys.length + 1) cap) (ys.length + 1) (flat us ys.length ++ u.toList)) (hg:w3.grownBy w4 v.ownBlock) (hn:v.ownBlock = some g ∨ g = w3.heap.size) :
  (∀ n,n < 3 → w4.heap[w.heap.size + n]? = wr.heap[w.heap.size + n]?) ∧ MakingV w C0 k (ys ++ [y]) (.slice (some ⟨g,0,none⟩) (ys.length + 1) cap) (w4.setCell ⟨w.heap.size + 2,4,none⟩ (.slice (some ⟨g,0,none⟩) (ys.length + 1) cap)):=by
 have hs:=h.size
 have hs2:=hb.size
 have hs3:=hb3.size
 have hst:=hbt.step hb hx hF hb3 hs hr hg hn
 have hold:∀ n,n < 3 → w4.heap[w.heap.size + n]? = wr.heap[w.heap.size + n]?:=fun n hn => by
  rw [hg.block _ (by omega) (fun hc => by have:=(hbt.lt _ hc.symm).1;omega),hb3.block _ (by omega),hb.block _ (by omega)]
 have hb4:Below w.heap.size w w4:=((h.below.trans (hb.mono (by omega))).trans (hb3.mono (by omega))).grown hg (by omega) (fun k hk => by have:=(hbt.lt k hk).1;omega)
 refine ⟨hold,⟨⟨(fun n => if n = ys.length then u else us n),(fun n => if n = ys.length then F else Fs n),?_⟩,?_,?_,?_,?_,?_⟩⟩
 ·rw [List.length_append,List.length_singleton]
  exact hst.set ⟨w.heap.size + 2,4,none⟩ _ (by show w.heap.size + 2 < _;omega)
 ·have:=hold 0 (by omega)
  rw [Nat.add_zero] at this
  exact blk_set_far (this.trans h.b0) _ _ (by show w.heap.size ≠ w.heap.size + 2;omega)
 ·exact blk_set_far ((hold 1 (by omega)).trans h.b1) _ _ (by show w.heap.size + 1 ≠ w.heap.size + 2;omega)
 ·rw [blk_set ((hold 2 (by omega)).trans h.b2)]
  rfl
 ·exact hb4.setCell (by show w.heap.size ≤ w.heap.size + 2;omega) _
 ·have:=hg.size
  simp [World.setCell]
  omega
end
theorem refValueAt7 (p:Option Addr) (l:List UInt8) (c:Nat) (hl:l.length ≤ 140737488351232) (hlc:l.length ≤ c):∀ (x:Ty) (d:Nat) (a:Nat) (w:World) (u:Array Value),Ty.check d x = 0 → TLies w u x → a ≤ l.length → At w p l → Calls Tryz.prog 170 #[.agg u,.slice p l.length c,.int .i64 a] w (ReadV w a (Sch.rdV x (l.drop a))):=by
  intro x
  refine Ty.ind (P:=fun x => ∀ (d:Nat) (a:Nat) (w:World) (u:Array Value),Ty.check d x = 0 → TLies w u x → a ≤ l.length → At w p l → Calls Tryz.prog 170 #[.agg u,.slice p l.length c,.int .i64 a] w (ReadV w a (Sch.rdV x (l.drop a)))) ?_ x
  intro k xs ih d a w u hd hx ha hat
  obtain ⟨q,cq,rfl,hxl,hxc,hxi⟩:=hx.open
  unfold cells2
  obtain ⟨hd4,hk,htt⟩:=Sch.ty_open hd
  rcases htt with ⟨h67,rfl⟩ | ⟨h67,x,rfl,hxc2⟩
  · have e6:(k != 6) = true:=bne_t (by omega)
    have e7:(k != 7) = true:=bne_t (by omega)
    have HE:Hid (Sch.rdV (.mk k []) (l.drop a) = Sch.scalar k (l.drop a)):=by show _ = _;rw [Sch.rdV_mk,if_pos (by omega)]
    have HS:=Lib.hid (fun w' (hb:Below w.heap.size w w') => refScalar7 k (by omega) p l c a hl hlc ha w' (hat.on hb))
    rw [HE.out]
    clear ih hxi hat hd hx
    go_enter Tryz.func170,Tryz.ntmps170
    have HB2:Hid (∀ o o2,Below w.heap.size w ((w.alloc o).alloc o2)):=fun o o2 => ((Below.refl _ _).alloc (Nat.le_refl _) _).alloc (by simp) _
    go_wp2_with fail
    obtain ⟨W1,hW1⟩:∃ W1,W1 = (w.alloc (.cells #[.int .i64 k,.slice q 0 cq] 127)).alloc (.cells #[.int .i64 0,.int .i64 0,.float .f64 0,.string ⟨#[]⟩,.slice none 0 0] 131):=⟨_,rfl⟩
    rw [← hW1]
    have HBW:Hid (Below w.heap.size w W1):=by rw [hW1];exact HB2.out _ _
    have hs1:W1.heap.size = w.heap.size + 2:=by rw [hW1];simp
    have HR0:Hid (W1.heap[w.heap.size + 1]? = some (.cells (cells5 0 0 0 ⟨#[]⟩ none 0 0) 131 (0,0))):=by
      show _ = _
      rw [hW1]
      have:=blk_new (w.alloc (.cells #[.int .i64 k,.slice q 0 cq] 127)) (.cells #[.int .i64 0,.int .i64 0,.float .f64 0,.string ⟨#[]⟩,.slice none 0 0] 131)
      simpa [cells5] using this
    clear hW1
    refine (HS.out W1 HBW.out).mono ?_
    intro e w1 hr
    cases hsc:Sch.scalar k (l.drop a) with
    | error er =>
      rw [hsc] at hr
      obtain ⟨rfl,hb1⟩:=hr
      have hb1':w1.heap[w.heap.size + 1]? = some (.cells (cells5 0 0 0 ⟨#[]⟩ none 0 0) 131 (0,0)):=(hb1.block _ (by omega)).trans HR0.out
      have hfin:=put5_fin (q:=none) (n:=0) (c:=0) (F:=fun _ => False) (v:=.mk 0 0 0 ⟨#[]⟩ []) hb1' HBW.out (by omega) (hb1.mono (by omega)) hb1.size VOwn.none (fun _ h => h.elim)
      have HF:=Lib.hid hfin
      have r0:w1.cell? ⟨w.heap.size + 1,0,none⟩ = some (.int .i64 0):=blk_cell hb1' 0
      have r1:w1.cell? ⟨w.heap.size + 1,1,none⟩ = some (.int .i64 0):=blk_cell hb1' 1
      have r2:w1.cell? ⟨w.heap.size + 1,2,none⟩ = some (.float .f64 0):=blk_cell hb1' 2
      have r3:w1.cell? ⟨w.heap.size + 1,3,none⟩ = some (.string ⟨#[]⟩):=blk_cell hb1' 3
      have r4:w1.cell? ⟨w.heap.size + 1,4,none⟩ = some (.slice none 0 0):=blk_cell hb1' 4
      have s0:=blk_free hb1' 0
      have s1:=blk_free hb1' 1
      have s2:=blk_free hb1' 2
      have s3:=blk_free hb1' 3
      have s4:=blk_free hb1' 4
      have HSc:=Lib.hid hsc
      clear hb1 hb1' hfin hsc
      unfold cells5
      go_wp2
      refine bodyPost_ret (results_row3 rfl _ _ (w.heap.size + 1) _ _ _ _ rfl HF.out.1 Tryz.underlying131 rfl (by kernel_rfl)) rfl ?_
      rw [HSc.out]
      exact ⟨rfl,HF.out.2.2⟩
    | ok vk =>
      obtain ⟨y,kk⟩:=vk
      rw [hsc] at hr
      obtain ⟨u,rfl,hv,hb1⟩:=hr
      obtain ⟨k',i',b',t',p',n',c',rfl⟩:=hv.shape
      have hb1':w1.heap[w.heap.size + 1]? = some (.cells (cells5 0 0 0 ⟨#[]⟩ none 0 0) 131 (0,0)):=(hb1.block _ (by omega)).trans HR0.out
      have hfin:=put5_fin hb1' HBW.out (by omega) (hb1.mono (by omega)) hb1.size hv (fun j hj => by rw [hs1] at hj;exact hj)
      have HF:=Lib.hid hfin
      have r0:w1.cell? ⟨w.heap.size + 1,0,none⟩ = some (.int .i64 0):=blk_cell hb1' 0
      have r1:w1.cell? ⟨w.heap.size + 1,1,none⟩ = some (.int .i64 0):=blk_cell hb1' 1
      have r2:w1.cell? ⟨w.heap.size + 1,2,none⟩ = some (.float .f64 0):=blk_cell hb1' 2
      have r3:w1.cell? ⟨w.heap.size + 1,3,none⟩ = some (.string ⟨#[]⟩):=blk_cell hb1' 3
      have r4:w1.cell? ⟨w.heap.size + 1,4,none⟩ = some (.slice none 0 0):=blk_cell hb1' 4
      have s0:=blk_free hb1' 0
      have s1:=blk_free hb1' 1
      have s2:=blk_free hb1' 2
      have s3:=blk_free hb1' 3
      have s4:=blk_free hb1' 4
      have HSc:=Lib.hid hsc
      clear hb1 hb1' hfin hsc hv
      unfold cells5
      go_wp2
      refine bodyPost_ret (results_row3 rfl _ _ (w.heap.size + 1) _ _ _ _ rfl HF.out.1 Tryz.underlying131 rfl (by kernel_rfl)) rfl ?_
      rw [HSc.out]
      exact ⟨_,by rw [show ((a + kk:Nat):Int) = (a:Int) + (kk:Int) by omega];rfl,HF.out.2.1,HF.out.2.2⟩
  · have HMn:Hid (Sch.rdV (.mk k [x]) (l.drop a) = match Sch.many k (l.drop a) with
        | .error e => .error e
        | .ok (m,j) => match Sch.rdN (Sch.rdV x) m ((l.drop a).drop j) with
          | .error e => .error e
          | .ok (vs,j2) => .ok (.mk k 0 0 ⟨#[]⟩ vs,j + j2)):=by show _ = _;rw [Sch.rdV_mk,if_neg (by omega)];rfl
    obtain ⟨ux,hvx,hix⟩:=hxi 0 (by simp)
    have HX:Hid (TLies w ux x ∧ ItemT w q 0 ux):=⟨hvx,hix⟩
    have HIH:=Lib.hid (fun a w u h1 h2 h3 => ih x (by simp) (d + 1) a w u hxc2 h1 h2 h3)
    have HAt:=Lib.hid hat
    have HTl:Hid (∀ l' e,Sch.rdV x l' = .error e → e ≠ 0):=fun l' e => rdV_err x (d + 1) l' e hxc2
    have HVl:Hid (∀ l' v j,Sch.rdV x l' = .ok (v,j) → j ≤ l'.length):=fun l' v j hv => by
      obtain ⟨h1,⟨r,h2⟩,-⟩:=Sch.rdV_ok x (d + 1) l' v j hxc2 hv
      rw [h2,List.length_append,h1]
      omega
    clear ih hxi hat hd hx hvx hix
    have HB2:Hid (∀ o o2,Below w.heap.size w ((w.alloc o).alloc o2)):=fun o o2 => ((Below.refl _ _).alloc (Nat.le_refl _) _).alloc (by simp) _
    rcases h67 with rfl | rfl
    · have HBit:=Lib.hid (fun w' (hb:Below w.heap.size w w') => refBit7 p l c a hl ha w' (HAt.out.on hb))
      go_enter Tryz.func170,Tryz.ntmps170
      go_wp2_with fail
      refine (HBit.out _ (HB2.out _ _)).mono ?_
      rintro e w1 ⟨rfl,hw⟩
      rw [hw]
      clear hw w1
      cases hm:Sch.bit (l.drop a) with
      | error er =>
        simp only [bitV]
        have g0:((er:Int) != 0) = true:=by have:=bit_err hm;rw [bne_iff_ne];omega
        have HE:Hid (Sch.rdV (.mk 6 [x]) (l.drop a) = .error er):=by show _ = _;rw [HMn.out,Sch.many,if_pos rfl,hm]
        clear HMn hm HBit
        go_wp2
        refine bodyPost_ret (results_row3 rfl _ _ (w.heap.size + 1) _ _ _ _ rfl (blk_second w _ _) Tryz.underlying131 rfl (by kernel_rfl)) rfl ?_
        rw [HE.out]
        exact ⟨rfl,HB2.out _ _⟩
      | ok nk =>
        obtain ⟨m,kk⟩:=nk
        simp only [bitV]
        have ekk:((a + kk:Nat):Int) = (a:Int) + (kk:Int):=by omega
        rw [ekk]
        clear ekk
        have hb:=Sch.bit_ok hm
        have hm1:=hb.1
        have hmb:m ≤ 256:=by omega
        have hkl:a + kk ≤ l.length:=by
          obtain ⟨-,h1,r,hr⟩:=hb
          have:=congrArg List.length hr
          rw [List.length_drop,List.length_cons] at this
          omega
        have hMM:Sch.many 6 (l.drop a) = .ok (m,kk):=by rw [Sch.many,if_pos rfl,hm]
        have HMk:Sch.rdV (.mk 6 [x]) (l.drop a) = match Sch.rdN (Sch.rdV x) m (l.drop (a + kk)) with
            | .error e => .error e
            | .ok (vs,j2) => .ok (.mk 6 0 0 ⟨#[]⟩ vs,kk + j2):=by
          rw [HMn.out,hMM]
          show (match Sch.rdN (Sch.rdV x) m ((l.drop a).drop kk) with
            | .error e => .error e
            | .ok (vs,j2) => .ok (.mk 6 0 0 ⟨#[]⟩ vs,kk + j2):Except Nat (V × Nat)) = _
          rw [List.drop_drop]
        clear HMn hm HBit hb hMM
        have HP:=Lib.hid HMk
        clear HMk
        go_wp2_with fail
        go_loopw [10,14] (fun v10 v14 wr => ∃ (ys:List V) (n:Nat) (qv:Option Addr) (dv:Nat),ys.length ≤ m ∧ v14 = .int .i64 ys.length ∧ v10 = .int .i64 ((a:Int) + (kk:Int) + (n:Int)) ∧ a + kk + n ≤ l.length ∧ Hid (MakingV w #[.int .i64 6,.slice q 1 cq] 6 ys (.slice qv ys.length dv) wr ∧ Sch.rdN (Sch.rdV x) m (l.drop (a + kk)) = glue ys n (Sch.rdN (Sch.rdV x) (m - ys.length) (l.drop (a + kk + n))))) (fun _ v14 _ => m - (intOf v14).toNat)
        case atStart =>
          refine ⟨[],0,none,0,by simp,rfl,by go_num,hkl,makingV_start w _ _,?_⟩
          rw [List.length_nil,Nat.sub_zero,Nat.add_zero]
          cases Sch.rdN (Sch.rdV x) m (l.drop (a + kk)) with
          | error e => rfl
          | ok q => simp [glue]
        case round =>
          obtain ⟨ys,n,qv,dv,hys,rfl,rfl,hnl,HK⟩:=hrel
          have HM:=Lib.hid HK.out.1
          have HG2:=Lib.hid HK.out.2
          by_cases hlt:ys.length < m
          · have hlt':(ys.length:Int) < (m:Int):=by omega
            obtain ⟨bx,ox,kx,qx,nx,cx,rfl,hbx,rfl,a0,a1⟩:=(HX.out.2.on HM.out.below).lies
            rw [Nat.zero_mul,Nat.add_zero] at a0 a1
            have n1:wr.cell? ⟨w.heap.size,1,none⟩ = some (.slice (some ⟨bx,ox,none⟩) 1 cq):=blk_cell HM.out.b0 1
            have HC:=HIH.out (a + kk + n) wr _ (HX.out.1.on HM.out.below) hnl (HAt.out.on HM.out.below)
            rw [show ((a + kk + n:Nat):Int) = (a:Int) + (kk:Int) + (n:Int) by omega] at HC
            replace HC:=Lib.hid HC
            unfold cells2 at HC
            obtain ⟨R,hR⟩:∃ R,R = Sch.rdV x (l.drop (a + kk + n)):=⟨_,rfl⟩
            have HRr:=Lib.hid hR
            rw [← hR] at HC
            have HSt:Hid (Sch.rdN (Sch.rdV x) m (l.drop (a + kk)) = glue ys n (stepR (Sch.rdV x) (m - (ys.length + 1)) (l.drop (a + kk + n)) R)):=by
              show _ = _
              rw [HG2.out,show m - ys.length = (m - (ys.length + 1)) + 1 by omega,rdN_succ,← hR]
            clear hR HK
            go_wp2_with fail
            refine HC.out.mono ?_
            intro e w2 hr
            cases R with
            | error er =>
              obtain ⟨rfl,hb2⟩:=hr
              have her:=HTl.out _ er HRr.out.symm
              have g0:((er:Int) != 0) = true:=by rw [bne_iff_ne];omega
              have HEr:Hid (Sch.rdV (.mk 6 [x]) (l.drop a) = .error er):=by show _ = _;rw [HP.out,HSt.out];rfl
              have hsz:=HM.out.size
              obtain ⟨w3,hw3⟩:∃ w3,w3 = w2.alloc (.cells #[.int .i64 0,.int .i64 0,.float .f64 0,.string ⟨#[]⟩,.slice none 0 0] 131):=⟨_,rfl⟩
              have hb3:Below wr.heap.size wr w3:=by rw [hw3];exact hb2.alloc hb2.size _
              have HW3:=Lib.hid hw3
              have hb1':w3.heap[w.heap.size + 1]? = some (.cells (cells5 0 0 0 ⟨#[]⟩ none 0 0) 131 (0,0)):=(hb3.block _ (by omega)).trans HM.out.b1
              have HF:=Lib.hid (put5_fin (q:=none) (n:=0) (c:=0) (F:=fun _ => False) (v:=.mk 0 0 0 ⟨#[]⟩ []) hb1' HM.out.below (by omega) (hb3.mono (by omega)) hb3.size VOwn.none (fun _ h => h.elim))
              have r0:w3.cell? ⟨w.heap.size + 1,0,none⟩ = some (.int .i64 0):=blk_cell hb1' 0
              have r1:w3.cell? ⟨w.heap.size + 1,1,none⟩ = some (.int .i64 0):=blk_cell hb1' 1
              have r2:w3.cell? ⟨w.heap.size + 1,2,none⟩ = some (.float .f64 0):=blk_cell hb1' 2
              have r3:w3.cell? ⟨w.heap.size + 1,3,none⟩ = some (.string ⟨#[]⟩):=blk_cell hb1' 3
              have r4:w3.cell? ⟨w.heap.size + 1,4,none⟩ = some (.slice none 0 0):=blk_cell hb1' 4
              have s0:=blk_free hb1' 0
              have s1:=blk_free hb1' 1
              have s2:=blk_free hb1' 2
              have s3:=blk_free hb1' 3
              have s4:=blk_free hb1' 4
              rw [hw3] at r0 r1 r2 r3 r4 s0 s1 s2 s3 s4
              clear hb1' hb3 hb2 hw3 a0 a1 n1 HC HSt HG2 HM
              unfold cells5
              go_wp2
              rw [← HW3.out]
              refine bodyPost_ret (results_row3 rfl _ _ (w.heap.size + 1) _ _ _ _ rfl HF.out.1 Tryz.underlying131 rfl (by kernel_rfl)) rfl ?_
              rw [HEr.out]
              exact ⟨rfl,HF.out.2.2⟩
            | ok vk =>
              obtain ⟨y,kj⟩:=vk
              obtain ⟨u',rfl,hv,hb2⟩:=hr
              obtain ⟨k',i',b',t',p',n',c',rfl⟩:=hv.shape
              obtain ⟨us,Fs,hbt⟩:=HM.out.built
              have hkj:=HVl.out _ y kj HRr.out.symm
              rw [List.length_drop] at hkj
              have HV:=Lib.hid hv
              have HB2w:=Lib.hid hb2
              have HBt:=Lib.hid hbt
              have c2:∀ o,(w2.alloc o).cell? ⟨w.heap.size + 2,4,none⟩ = some (.slice qv ys.length dv):=fun o => by
                have h1:Below wr.heap.size wr (w2.alloc o):=hb2.alloc hb2.size o
                exact cell_on h1 (blk_cell HM.out.b2 4)
              have hsz:w.heap.size + 3 ≤ w2.heap.size:=Nat.le_trans HM.out.size hb2.size
              have HSt2:Hid (Sch.rdN (Sch.rdV x) m (l.drop (a + kk)) = glue (ys ++ [y]) (n + kj) (Sch.rdN (Sch.rdV x) (m - (ys ++ [y]).length) (l.drop (a + kk + (n + kj))))):=by
                show _ = _
                rw [HSt.out,stepR,glue_glue,List.length_append,List.length_singleton,List.drop_drop,Nat.add_assoc (a + kk)]
              clear hv hb2 hbt a0 a1 n1 HC HSt HG2
              unfold cells5 at HV ⊢
              have HB3:Hid (Below w2.heap.size w2 ((w2.alloc (.cells #[.int .i64 k',.int .i64 i',.float .f64 b',.string t',.slice p' n' c'] 131)).alloc (.cells #[.int .i64 k',.int .i64 i',.float .f64 b',.string t',.slice p' n' c'] 131))):=((Below.refl _ _).alloc (Nat.le_refl _) _).alloc (by simp) _
              go_wp2_with (at_builtin;refine wp_more (B:=w.heap.size + 3) (us:=us) ((HBt.out.on HB2w.out).on HB3.out).row (u:=#[.int .i64 k',.int .i64 i',.float .f64 b',.string t',.slice p' n' c']) rfl (one5 HV.out) (ad:=w2.heap.size + 1) (blk_second w2 _ _) (by omega) (by simp;omega) rfl rfl rfl rfl rfl ?_
                           intro g2 cap2 w4 hr4 hg4 hn4
                           obtain ⟨hold,hmk⟩:=HM.out.next HBt.out HB2w.out HV.out (fun _ h => h) HB3.out hr4 hg4 hn4
                           have f4:=blk_free ((hold 2 (by omega)).trans HM.out.b2) 4
                           have g4:w4.cell? ⟨w.heap.size + 2,4,none⟩ = some (.slice qv ys.length dv):=blk_cell ((hold 2 (by omega)).trans HM.out.b2) 4
                           have HMK:=Lib.hid hmk
                           clear hold hmk hr4 hg4 hn4)
              go_roundw
              case rel => exact ⟨ys ++ [y],n + kj,some ⟨g2,0,none⟩,cap2,by simp;omega,by simp,by go_num,by omega,⟨by simpa using HMK.out,HSt2.out⟩⟩
              case measure => simp [intOf];omega
          · have hjn:¬ (ys.length:Int) < (m:Int):=by omega
            have hym:ys.length = m:=by omega
            have hsz:=HM.out.size
            have HRd:Hid (Sch.rdV (.mk 6 [x]) (l.drop a) = .ok (.mk 6 0 0 ⟨#[]⟩ ys,kk + n)):=by
              show _ = _
              rw [HP.out,HG2.out,hym,Nat.sub_self]
              simp [Sch.rdN,glue]
            obtain ⟨us,Fs,hbt⟩:=HM.out.built
            obtain ⟨pv,cv,hev,hown⟩:=hbt.done (by omega) 6 0 0 ⟨#[]⟩
            injection hev with e1 e2 e3
            subst e1 e3
            have HF:=Lib.hid (put5_fin HM.out.b1 HM.out.below (by omega) (Below.refl _ _) (Nat.le_refl _) hown (fun j hj => ⟨by omega,hj.2⟩))
            have e0:wr.cell? ⟨w.heap.size + 2,0,none⟩ = some (.int .i64 6):=blk_cell HM.out.b2 0
            have e1:wr.cell? ⟨w.heap.size + 2,1,none⟩ = some (.int .i64 0):=blk_cell HM.out.b2 1
            have e2:wr.cell? ⟨w.heap.size + 2,2,none⟩ = some (.float .f64 0):=blk_cell HM.out.b2 2
            have e3:wr.cell? ⟨w.heap.size + 2,3,none⟩ = some (.string ⟨#[]⟩):=blk_cell HM.out.b2 3
            have e4:wr.cell? ⟨w.heap.size + 2,4,none⟩ = some (.slice qv ys.length dv):=blk_cell HM.out.b2 4
            have r0:wr.cell? ⟨w.heap.size + 1,0,none⟩ = some (.int .i64 0):=blk_cell HM.out.b1 0
            have r1:wr.cell? ⟨w.heap.size + 1,1,none⟩ = some (.int .i64 0):=blk_cell HM.out.b1 1
            have r2:wr.cell? ⟨w.heap.size + 1,2,none⟩ = some (.float .f64 0):=blk_cell HM.out.b1 2
            have r3:wr.cell? ⟨w.heap.size + 1,3,none⟩ = some (.string ⟨#[]⟩):=blk_cell HM.out.b1 3
            have r4:wr.cell? ⟨w.heap.size + 1,4,none⟩ = some (.slice none 0 0):=blk_cell HM.out.b1 4
            have s0:=blk_free HM.out.b1 0
            have s1:=blk_free HM.out.b1 1
            have s2:=blk_free HM.out.b1 2
            have s3:=blk_free HM.out.b1 3
            have s4:=blk_free HM.out.b1 4
            clear HK HG2 HP hbt hown hym hlt
            go_wp2
            refine bodyPost_ret (results_row3 rfl _ _ (w.heap.size + 1) _ _ _ _ rfl HF.out.1 Tryz.underlying131 rfl (by kernel_rfl)) rfl ?_
            rw [HRd.out]
            exact ⟨_,by rw [show ((a + (kk + n):Nat):Int) = (a:Int) + (kk:Int) + (n:Int) by omega];rfl,HF.out.2.1,HF.out.2.2⟩
    · have HNum:=Lib.hid (fun w' (hb:Below w.heap.size w w') => refNum7 p c l a hl w' (HAt.out.on hb))
      go_enter Tryz.func170,Tryz.ntmps170
      go_wp2_with fail
      refine (HNum.out _ (HB2.out _ _)).mono ?_
      rintro e w1 ⟨rfl,hw⟩
      rw [hw]
      clear hw w1
      cases hm:Sch.num (l.drop a) with
      | error er =>
        simp only [numV]
        have her:=num_err hm
        have g0:((er:Int) != 0) = true:=by rw [bne_iff_ne];omega
        have g1:((er:Int) == 0) = false:=beq_f (by omega)
        have HE:Hid (Sch.rdV (.mk 7 [x]) (l.drop a) = .error er):=by show _ = _;rw [HMn.out,Sch.many,if_neg (by decide),hm]
        clear HMn hm HNum her
        go_wp2
        refine bodyPost_ret (results_row3 rfl _ _ (w.heap.size + 1) _ _ _ _ rfl (blk_second w _ _) Tryz.underlying131 rfl (by kernel_rfl)) rfl ?_
        rw [HE.out]
        exact ⟨rfl,HB2.out _ _⟩
      | ok nk =>
        obtain ⟨m,kk⟩:=nk
        simp only [numV]
        have ekk:((a + kk:Nat):Int) = (a:Int) + (kk:Int):=by omega
        rw [ekk]
        clear ekk
        have hb:=Sch.num_ok hm
        have hkl:a + kk ≤ l.length:=by
          obtain ⟨-,r,hr,hk2⟩:=hb
          have:=congrArg List.length hr
          rw [List.length_drop,List.length_append] at this
          omega
        by_cases h256:256 < m
        · have g256:(256:Int) < (m:Int):=by omega
          have HE:Hid (Sch.rdV (.mk 7 [x]) (l.drop a) = .error 3):=by
            show _ = _
            rw [HMn.out,Sch.many,if_neg (by decide),hm]
            dsimp only
            rw [if_pos h256]
          clear HMn hm HNum hb h256
          go_wp2
          refine bodyPost_ret (results_row3 rfl _ _ (w.heap.size + 1) _ _ _ _ rfl (blk_second w _ _) Tryz.underlying131 rfl (by kernel_rfl)) rfl ?_
          rw [HE.out]
          exact ⟨rfl,HB2.out _ _⟩
        have g256:¬ (256:Int) < (m:Int):=by omega
        have hmb:m ≤ 256:=by omega
        have hMM:Sch.many 7 (l.drop a) = .ok (m,kk):=by
          rw [Sch.many,if_neg (by decide),hm]
          dsimp only
          rw [if_neg h256]
        have HMk:Sch.rdV (.mk 7 [x]) (l.drop a) = match Sch.rdN (Sch.rdV x) m (l.drop (a + kk)) with
            | .error e => .error e
            | .ok (vs,j2) => .ok (.mk 7 0 0 ⟨#[]⟩ vs,kk + j2):=by
          rw [HMn.out,hMM]
          show (match Sch.rdN (Sch.rdV x) m ((l.drop a).drop kk) with
            | .error e => .error e
            | .ok (vs,j2) => .ok (.mk 7 0 0 ⟨#[]⟩ vs,kk + j2):Except Nat (V × Nat)) = _
          rw [List.drop_drop]
        clear HMn hm HNum hb hMM h256
        have HP:=Lib.hid HMk
        clear HMk
        go_wp2_with fail
        go_loopw [10,14] (fun v10 v14 wr => ∃ (ys:List V) (n:Nat) (qv:Option Addr) (dv:Nat),ys.length ≤ m ∧ v14 = .int .i64 ys.length ∧ v10 = .int .i64 ((a:Int) + (kk:Int) + (n:Int)) ∧ a + kk + n ≤ l.length ∧ Hid (MakingV w #[.int .i64 7,.slice q 1 cq] 7 ys (.slice qv ys.length dv) wr ∧ Sch.rdN (Sch.rdV x) m (l.drop (a + kk)) = glue ys n (Sch.rdN (Sch.rdV x) (m - ys.length) (l.drop (a + kk + n))))) (fun _ v14 _ => m - (intOf v14).toNat)
        case atStart =>
          refine ⟨[],0,none,0,by simp,rfl,by go_num,hkl,makingV_start w _ _,?_⟩
          rw [List.length_nil,Nat.sub_zero,Nat.add_zero]
          cases Sch.rdN (Sch.rdV x) m (l.drop (a + kk)) with
          | error e => rfl
          | ok q => simp [glue]
        case round =>
          obtain ⟨ys,n,qv,dv,hys,rfl,rfl,hnl,HK⟩:=hrel
          have HM:=Lib.hid HK.out.1
          have HG2:=Lib.hid HK.out.2
          by_cases hlt:ys.length < m
          · have hlt':(ys.length:Int) < (m:Int):=by omega
            obtain ⟨bx,ox,kx,qx,nx,cx,rfl,hbx,rfl,a0,a1⟩:=(HX.out.2.on HM.out.below).lies
            rw [Nat.zero_mul,Nat.add_zero] at a0 a1
            have n1:wr.cell? ⟨w.heap.size,1,none⟩ = some (.slice (some ⟨bx,ox,none⟩) 1 cq):=blk_cell HM.out.b0 1
            have HC:=HIH.out (a + kk + n) wr _ (HX.out.1.on HM.out.below) hnl (HAt.out.on HM.out.below)
            rw [show ((a + kk + n:Nat):Int) = (a:Int) + (kk:Int) + (n:Int) by omega] at HC
            replace HC:=Lib.hid HC
            unfold cells2 at HC
            obtain ⟨R,hR⟩:∃ R,R = Sch.rdV x (l.drop (a + kk + n)):=⟨_,rfl⟩
            have HRr:=Lib.hid hR
            rw [← hR] at HC
            have HSt:Hid (Sch.rdN (Sch.rdV x) m (l.drop (a + kk)) = glue ys n (stepR (Sch.rdV x) (m - (ys.length + 1)) (l.drop (a + kk + n)) R)):=by
              show _ = _
              rw [HG2.out,show m - ys.length = (m - (ys.length + 1)) + 1 by omega,rdN_succ,← hR]
            clear hR HK
            go_wp2_with fail
            refine HC.out.mono ?_
            intro e w2 hr
            cases R with
            | error er =>
              obtain ⟨rfl,hb2⟩:=hr
              have her:=HTl.out _ er HRr.out.symm
              have g0:((er:Int) != 0) = true:=by rw [bne_iff_ne];omega
              have HEr:Hid (Sch.rdV (.mk 7 [x]) (l.drop a) = .error er):=by show _ = _;rw [HP.out,HSt.out];rfl
              have hsz:=HM.out.size
              obtain ⟨w3,hw3⟩:∃ w3,w3 = w2.alloc (.cells #[.int .i64 0,.int .i64 0,.float .f64 0,.string ⟨#[]⟩,.slice none 0 0] 131):=⟨_,rfl⟩
              have hb3:Below wr.heap.size wr w3:=by rw [hw3];exact hb2.alloc hb2.size _
              have HW3:=Lib.hid hw3
              have hb1':w3.heap[w.heap.size + 1]? = some (.cells (cells5 0 0 0 ⟨#[]⟩ none 0 0) 131 (0,0)):=(hb3.block _ (by omega)).trans HM.out.b1
              have HF:=Lib.hid (put5_fin (q:=none) (n:=0) (c:=0) (F:=fun _ => False) (v:=.mk 0 0 0 ⟨#[]⟩ []) hb1' HM.out.below (by omega) (hb3.mono (by omega)) hb3.size VOwn.none (fun _ h => h.elim))
              have r0:w3.cell? ⟨w.heap.size + 1,0,none⟩ = some (.int .i64 0):=blk_cell hb1' 0
              have r1:w3.cell? ⟨w.heap.size + 1,1,none⟩ = some (.int .i64 0):=blk_cell hb1' 1
              have r2:w3.cell? ⟨w.heap.size + 1,2,none⟩ = some (.float .f64 0):=blk_cell hb1' 2
              have r3:w3.cell? ⟨w.heap.size + 1,3,none⟩ = some (.string ⟨#[]⟩):=blk_cell hb1' 3
              have r4:w3.cell? ⟨w.heap.size + 1,4,none⟩ = some (.slice none 0 0):=blk_cell hb1' 4
              have s0:=blk_free hb1' 0
              have s1:=blk_free hb1' 1
              have s2:=blk_free hb1' 2
              have s3:=blk_free hb1' 3
              have s4:=blk_free hb1' 4
              rw [hw3] at r0 r1 r2 r3 r4 s0 s1 s2 s3 s4
              clear hb1' hb3 hb2 hw3 a0 a1 n1 HC HSt HG2 HM
              unfold cells5
              go_wp2
              rw [← HW3.out]
              refine bodyPost_ret (results_row3 rfl _ _ (w.heap.size + 1) _ _ _ _ rfl HF.out.1 Tryz.underlying131 rfl (by kernel_rfl)) rfl ?_
              rw [HEr.out]
              exact ⟨rfl,HF.out.2.2⟩
            | ok vk =>
              obtain ⟨y,kj⟩:=vk
              obtain ⟨u',rfl,hv,hb2⟩:=hr
              obtain ⟨k',i',b',t',p',n',c',rfl⟩:=hv.shape
              obtain ⟨us,Fs,hbt⟩:=HM.out.built
              have hkj:=HVl.out _ y kj HRr.out.symm
              rw [List.length_drop] at hkj
              have HV:=Lib.hid hv
              have HB2w:=Lib.hid hb2
              have HBt:=Lib.hid hbt
              have c2:∀ o,(w2.alloc o).cell? ⟨w.heap.size + 2,4,none⟩ = some (.slice qv ys.length dv):=fun o => by
                have h1:Below wr.heap.size wr (w2.alloc o):=hb2.alloc hb2.size o
                exact cell_on h1 (blk_cell HM.out.b2 4)
              have hsz:w.heap.size + 3 ≤ w2.heap.size:=Nat.le_trans HM.out.size hb2.size
              have HSt2:Hid (Sch.rdN (Sch.rdV x) m (l.drop (a + kk)) = glue (ys ++ [y]) (n + kj) (Sch.rdN (Sch.rdV x) (m - (ys ++ [y]).length) (l.drop (a + kk + (n + kj))))):=by
                show _ = _
                rw [HSt.out,stepR,glue_glue,List.length_append,List.length_singleton,List.drop_drop,Nat.add_assoc (a + kk)]
              clear hv hb2 hbt a0 a1 n1 HC HSt HG2
              unfold cells5 at HV ⊢
              have HB3:Hid (Below w2.heap.size w2 ((w2.alloc (.cells #[.int .i64 k',.int .i64 i',.float .f64 b',.string t',.slice p' n' c'] 131)).alloc (.cells #[.int .i64 k',.int .i64 i',.float .f64 b',.string t',.slice p' n' c'] 131))):=((Below.refl _ _).alloc (Nat.le_refl _) _).alloc (by simp) _
              go_wp2_with (at_builtin;refine wp_more (B:=w.heap.size + 3) (us:=us) ((HBt.out.on HB2w.out).on HB3.out).row (u:=#[.int .i64 k',.int .i64 i',.float .f64 b',.string t',.slice p' n' c']) rfl (one5 HV.out) (ad:=w2.heap.size + 1) (blk_second w2 _ _) (by omega) (by simp;omega) rfl rfl rfl rfl rfl ?_
                           intro g2 cap2 w4 hr4 hg4 hn4
                           obtain ⟨hold,hmk⟩:=HM.out.next HBt.out HB2w.out HV.out (fun _ h => h) HB3.out hr4 hg4 hn4
                           have f4:=blk_free ((hold 2 (by omega)).trans HM.out.b2) 4
                           have g4:w4.cell? ⟨w.heap.size + 2,4,none⟩ = some (.slice qv ys.length dv):=blk_cell ((hold 2 (by omega)).trans HM.out.b2) 4
                           have HMK:=Lib.hid hmk
                           clear hold hmk hr4 hg4 hn4)
              go_roundw
              case rel => exact ⟨ys ++ [y],n + kj,some ⟨g2,0,none⟩,cap2,by simp;omega,by simp,by go_num,by omega,⟨by simpa using HMK.out,HSt2.out⟩⟩
              case measure => simp [intOf];omega
          · have hjn:¬ (ys.length:Int) < (m:Int):=by omega
            have hym:ys.length = m:=by omega
            have hsz:=HM.out.size
            have HRd:Hid (Sch.rdV (.mk 7 [x]) (l.drop a) = .ok (.mk 7 0 0 ⟨#[]⟩ ys,kk + n)):=by
              show _ = _
              rw [HP.out,HG2.out,hym,Nat.sub_self]
              simp [Sch.rdN,glue]
            obtain ⟨us,Fs,hbt⟩:=HM.out.built
            obtain ⟨pv,cv,hev,hown⟩:=hbt.done (by omega) 7 0 0 ⟨#[]⟩
            injection hev with e1 e2 e3
            subst e1 e3
            have HF:=Lib.hid (put5_fin HM.out.b1 HM.out.below (by omega) (Below.refl _ _) (Nat.le_refl _) hown (fun j hj => ⟨by omega,hj.2⟩))
            have e0:wr.cell? ⟨w.heap.size + 2,0,none⟩ = some (.int .i64 7):=blk_cell HM.out.b2 0
            have e1:wr.cell? ⟨w.heap.size + 2,1,none⟩ = some (.int .i64 0):=blk_cell HM.out.b2 1
            have e2:wr.cell? ⟨w.heap.size + 2,2,none⟩ = some (.float .f64 0):=blk_cell HM.out.b2 2
            have e3:wr.cell? ⟨w.heap.size + 2,3,none⟩ = some (.string ⟨#[]⟩):=blk_cell HM.out.b2 3
            have e4:wr.cell? ⟨w.heap.size + 2,4,none⟩ = some (.slice qv ys.length dv):=blk_cell HM.out.b2 4
            have r0:wr.cell? ⟨w.heap.size + 1,0,none⟩ = some (.int .i64 0):=blk_cell HM.out.b1 0
            have r1:wr.cell? ⟨w.heap.size + 1,1,none⟩ = some (.int .i64 0):=blk_cell HM.out.b1 1
            have r2:wr.cell? ⟨w.heap.size + 1,2,none⟩ = some (.float .f64 0):=blk_cell HM.out.b1 2
            have r3:wr.cell? ⟨w.heap.size + 1,3,none⟩ = some (.string ⟨#[]⟩):=blk_cell HM.out.b1 3
            have r4:wr.cell? ⟨w.heap.size + 1,4,none⟩ = some (.slice none 0 0):=blk_cell HM.out.b1 4
            have s0:=blk_free HM.out.b1 0
            have s1:=blk_free HM.out.b1 1
            have s2:=blk_free HM.out.b1 2
            have s3:=blk_free HM.out.b1 3
            have s4:=blk_free HM.out.b1 4
            clear HK HG2 HP hbt hown hym hlt
            go_wp2
            refine bodyPost_ret (results_row3 rfl _ _ (w.heap.size + 1) _ _ _ _ rfl HF.out.1 Tryz.underlying131 rfl (by kernel_rfl)) rfl ?_
            rw [HRd.out]
            exact ⟨_,by rw [show ((a + (kk + n):Nat):Int) = (a:Int) + (kk:Int) + (n:Int) by omega];rfl,HF.out.2.1,HF.out.2.2⟩
end Go.Proofs.YtclhbhhlddbocaaGreatDoor
