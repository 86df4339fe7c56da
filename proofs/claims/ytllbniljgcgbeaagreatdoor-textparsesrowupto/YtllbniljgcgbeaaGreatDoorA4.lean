import Derived.Test.YtllbniljgcgbeaaGreatDoorA3
set_option maxRecDepth 100000
set_option maxHeartbeats 4000000
namespace Go.Proofs.YtllbniljgcgbeaaGreatDoor
open Go.RowKit
theorem Rd21.skip {w w':World} {R:Nat} {S:ByteArray} {a r:Tx.Bs} (h:Rd21 w R S (a ++ r)) (hl:w'.heap[R]? = some (.cells (rdC S ((S.size - r.length:Nat):Int) 0 0) 61)):Rd21 w' R S r:=by
 have hle:=h.le
 have hs:=h.suf
 simp only [List.length_append] at hle hs
 refine ⟨hl,?_,by omega,h.small⟩
 have e:S.size - r.length = (S.size - (a.length + r.length)) + a.length:=by omega
 rw [e,← List.drop_drop,hs,List.drop_left]
section
variable {w w':World} {R:Nat} {S:ByteArray} {l:Tx.Bs}
end
end Go.Proofs.YtllbniljgcgbeaaGreatDoor
namespace Go.Proofs.YtllbniljgcgbeaaGreatDoor
open Go.RowKit
theorem refHalf21 (c:UInt8) (w:World):Calls Tryz.prog 90 #[.int .u8 (c.toNat:Int)] w fun e w' => e = .returned (.int .i64 (Tx.half c:Int)) ∧ w' = w:=by
 have HD:=Lib.hid (refDig21 c w)
 have hc:c.toNat < 256:=c.toNat_lt
 have hcI:(c.toNat:Int) < 256:=by omega
 have HV:Hid (Tx.dig c = true → 48 ≤ c.toNat ∧ c.toNat ≤ 57):=fun h => by
  have h:Tx.dig c = true:=h
  rw [← dig_dec c,Bool.and_eq_true,decide_eq_true_eq,decide_eq_true_eq] at h
  omega
 cases hd:Tx.dig c with
 | true =>
  have hv:=HV.out hd
  have HR:Hid ((Tx.half c:Int) = (c.toNat:Int) - 48):=by
   show _ = _
   unfold Tx.half
   rw [hd,if_pos rfl]
   omega
  rw [hd] at HD
  have n1:(48:Int) ≤ (c.toNat:Int):=by omega
  have n2:(c.toNat:Int) ≤ 57:=by omega
  clear HV hd hv
  go_enter Tryz.func90,Tryz.ntmps90
  go_wp2_with fail
  refine HD.out.mono ?_
  rintro e w1 ⟨rfl,hw1⟩
  subst hw1
  go_wp2
  go_ret
  exact ⟨by rw [HR.out];go_num,rfl⟩
 | false =>
  rw [hd] at HD
  by_cases h1:97 ≤ c.toNat
  ·have n1:(97:Int) ≤ (c.toNat:Int):=by omega
   by_cases h2:c.toNat ≤ 102
   ·have n2:(c.toNat:Int) ≤ 102:=by omega
    have HR:Hid ((Tx.half c:Int) = (c.toNat:Int) - 97 + 10):=by
     show _ = _
     unfold Tx.half
     rw [hd,if_neg (by decide),if_pos ⟨h1,h2⟩]
     omega
    clear HV hd
    go_enter Tryz.func90,Tryz.ntmps90
    go_wp2_with fail
    refine HD.out.mono ?_
    rintro e w1 ⟨rfl,hw1⟩
    subst hw1
    go_wp2
    go_ret
    exact ⟨by rw [HR.out];go_num,rfl⟩
   ·have n2:¬ (c.toNat:Int) ≤ 102:=by omega
    have HR:Hid ((Tx.half c:Int) = 16):=by
     show _ = _
     unfold Tx.half
     rw [hd,if_neg (by decide),if_neg (fun hc => h2 hc.2)]
     rfl
    clear HV hd
    go_enter Tryz.func90,Tryz.ntmps90
    go_wp2_with fail
    refine HD.out.mono ?_
    rintro e w1 ⟨rfl,hw1⟩
    subst hw1
    go_wp2
    go_ret
    exact ⟨by rw [HR.out];rfl,rfl⟩
  ·have n1:¬ (97:Int) ≤ (c.toNat:Int):=by omega
   have HR:Hid ((Tx.half c:Int) = 16):=by
    show _ = _
    unfold Tx.half
    rw [hd,if_neg (by decide),if_neg (fun hc => h1 hc.1)]
    rfl
   clear HV hd
   go_enter Tryz.func90,Tryz.ntmps90
   go_wp2_with fail
   refine HD.out.mono ?_
   rintro e w1 ⟨rfl,hw1⟩
   subst hw1
   go_wp2
   go_ret
   exact ⟨by rw [HR.out];rfl,rfl⟩
end Go.Proofs.YtllbniljgcgbeaaGreatDoor
namespace Go.Proofs.YtllbniljgcgbeaaGreatDoor
open Go.RowKit
def fin21 {α:Type} (y:Tx.R (α × Tx.Bs)):Tx.R α:=match y with
 | .error e => .error e
 | .ok (x,r) => if r = [] then .ok x else .error (5,r.length)
def RdY21 {α:Type} (w:World) (R:Nat) (S:ByteArray):Tx.R (α × Tx.Bs) → Prop
 | .ok (_,r) => Rd21 w R S r
 | .error (e,n) => Bad21 w R S e n
def RdF21 {α:Type} (w:World) (R:Nat) (S:ByteArray):Tx.R α → Prop
 | .ok _ => Rd21 w R S []
 | .error (e,n) => Bad21 w R S e n
section
variable {w w':World} {R:Nat} {S:ByteArray} {l:Tx.Bs}
theorem Bad21.lt {e n:Nat} (h:Bad21 w R S e n):R < w.heap.size:=by
 obtain ⟨a,_,h2⟩:=h.lies
 exact blk_lt h2
theorem Bad21.drewN {e n:Nat} (h:Bad21 w R S e n) (k:Nat):Bad21 (w.drewN k) R S e n:=⟨h.lies,h.bad,h.small⟩
theorem refFailBad21 {e n:Nat} (h:Bad21 w R S e n) (a b:Int):Calls Tryz.prog 24 #[.pointer (some ⟨R,0,none⟩),.int .i64 a,.int .i64 b] w fun r w' => r = .returned (.tuple #[]) ∧ w' = w:=by
 have c2:=h.cell2
 have he:=h.bad
 have b1:((e:Int) == 0) = false:=by rw [beq_eq_false_iff_ne];omega
 clear h
 go_enter Tryz.func24,Tryz.ntmps24
 go_wp2
 go_end0
 exact ⟨rfl,rfl⟩
theorem refEnd21 {α:Type} (y:Tx.R (α × Tx.Bs)) (h:RdY21 w R S y):Calls Tryz.prog 29 #[.pointer (some ⟨R,0,none⟩)] w fun r w' => r = .returned (.tuple #[]) ∧ RdF21 w' R S (fin21 y) ∧ Aside (fun k => k = R) w w':=by
 cases y with
 | error y =>
  obtain ⟨e,n⟩:=y
  have h:Bad21 w R S e n:=h
  obtain ⟨a,ha,hl⟩:=h.lies
  have c0:w.cell? ⟨R,0,none⟩ = some (.string S):=blk_cell hl 0
  have c1:w.cell? ⟨R,1,none⟩ = some (.int .i64 (a:Int)):=blk_cell hl 1
  have hsm:=h.small
  have HF:=Lib.hid (fun k => refFailBad21 (h.drewN k) 5 (a:Int))
  have HB:=Lib.hid (fun k => h.drewN k)
  clear h hl
  by_cases hlt:a < S.size
  ·have f1:(a:Int) < (S.size:Int):=by omega
   go_enter Tryz.func29,Tryz.ntmps29
   go_wp2_with fail
   go_quiet (fail)
   go_wp2_with fail
   refine (HF.out _).mono ?_
   rintro e w1 ⟨rfl,rfl⟩
   go_wp2
   go_end0
   exact ⟨rfl,HB.out _,aside_drewN21 _ _ _⟩
  ·have f1:¬ (a:Int) < (S.size:Int):=by omega
   go_enter Tryz.func29,Tryz.ntmps29
   go_wp2_with fail
   go_quiet (fail)
   go_wp2
   go_end0
   exact ⟨rfl,HB.out _,aside_drewN21 _ _ _⟩
 | ok y =>
  obtain ⟨x,l⟩:=y
  have h:Rd21 w R S l:=h
  have c0:w.cell? ⟨R,0,none⟩ = some (.string S):=h.cell 0
  have c1:w.cell? ⟨R,1,none⟩ = some (.int .i64 ((S.size - l.length:Nat):Int)):=h.cell 1
  have hsm:=h.small
  have hle:=h.le
  by_cases hl:l = []
  ·subst hl
   have HB:=Lib.hid (fun k => h.drewN k)
   have f1:¬ ((S.size - ([]:Tx.Bs).length:Nat):Int) < (S.size:Int):=by simp
   obtain ⟨a,ha⟩:∃ a,a = S.size - ([]:Tx.Bs).length:=⟨_,rfl⟩
   rw [← ha] at c1 f1
   clear h ha hle
   go_enter Tryz.func29,Tryz.ntmps29
   go_wp2_with fail
   go_quiet (fail)
   go_wp2
   go_end0
   exact ⟨rfl,HB.out _,aside_drewN21 _ _ _⟩
  ·have hn:0 < l.length:=List.length_pos_iff.2 hl
   have HF:=Lib.hid (fun k => refFail21 (h.drewN k) 5 l.length (by decide))
   have HE:Hid (∀ w',Bad21 w' R S 5 l.length → RdF21 w' R S (fin21 (.ok (x,l):Tx.R (α × Tx.Bs)))):=fun w' hb => by
    have e:fin21 (.ok (x,l):Tx.R (α × Tx.Bs)) = .error (5,l.length):=if_neg hl
    rw [e]
    exact hb
   have f1:((S.size - l.length:Nat):Int) < (S.size:Int):=by omega
   obtain ⟨a,ha⟩:∃ a,a = S.size - l.length:=⟨_,rfl⟩
   rw [← ha] at c1 f1 HF
   clear h ha hle hl hn
   go_enter Tryz.func29,Tryz.ntmps29
   go_wp2_with fail
   go_quiet (fail)
   go_wp2_with fail
   refine (HF.out _).mono ?_
   rintro e w1 ⟨rfl,hb,ha1⟩
   have HB:=Lib.hid hb
   have HA:=Lib.hid ((aside_drewN21 (fun k => k = R) _ _).trans ha1 (fun _ _ h => h))
   clear hb ha1
   go_wp2
   go_end0
   exact ⟨rfl,HE.out _ HB.out,HA.out⟩
end
end Go.Proofs.YtllbniljgcgbeaaGreatDoor
