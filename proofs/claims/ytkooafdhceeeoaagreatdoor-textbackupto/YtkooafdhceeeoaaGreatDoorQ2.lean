import Derived.Test.YtkooafdhceeeoaaGreatDoorQ1
import Derived.Test.YtkooafdhceeeoaaGreatDoorB08
set_option maxRecDepth 100000
set_option maxHeartbeats 16000000
namespace Go.Proofs.YtkooafdhceeeoaaGreatDoor
def NZ {α:Type} (y:Tx.R α):Prop:=∀ k n,y = .error (k,n) → k ≠ 0
theorem NZ.ok {α:Type} {x:α}:NZ (.ok x:Tx.R α):=fun k n h => by cases h
theorem NZ.err {α:Type} {k n:Nat} (h:k ≠ 0):NZ (.error (k,n):Tx.R α):=fun k' n' e => by
 injection e with e
 injection e with e1 e2
 omega
theorem NZ.same {α β:Type} {y:Tx.R α} {e:Nat × Nat} (h:NZ y) (he:y = .error e):NZ (.error e:Tx.R β):=by
 obtain ⟨k,n⟩:=e
 exact NZ.err (h k n he)
theorem NZ.m {y:Tx.R Tx.Bs} {β:Type} {g:Tx.Bs → Tx.R β} (h:NZ y) (hg:∀ r,y = .ok r → NZ (g r)):NZ (andM y g):=by
 match y,h,hg with
 | .ok r,_,hg => exact hg r rfl
 | .error (k,n),h,_ => exact NZ.err (h k n rfl)
theorem NZ.p {α β:Type} {y:Tx.R (α × Tx.Bs)} {g:α → Tx.Bs → Tx.R β} (h:NZ y) (hg:∀ x r,y = .ok (x,r) → NZ (g x r)):NZ (andP y g):=by
 match y,h,hg with
 | .ok (x,r),_,hg => exact hg x r rfl
 | .error (k,n),h,_ => exact NZ.err (h k n rfl)
theorem must_nz:∀ (s l:Tx.Bs),NZ (Tx.must s l)
 | [],l => NZ.ok
 | _ :: _,[] => NZ.err (by decide)
 | c :: s,d :: l => by
  unfold Tx.must
  split
  ·exact must_nz s l
  ·exact NZ.err (by decide)
theorem must_len:∀ (s l r:Tx.Bs),Tx.must s l = .ok r → l.length = s.length + r.length
 | [],l,r,h => by
  unfold Tx.must at h
  injection h with h
  rw [h];simp
 | _ :: _,[],r,h => by unfold Tx.must at h;cases h
 | c :: s,d :: l,r,h => by
  unfold Tx.must at h
  split at h
  ·have:=must_len s l r h
   simp only [List.length_cons]
   omega
  ·cases h
theorem pty_nz:∀ (f:Nat) (l:Tx.Bs),NZ (Tx.pty f l)
 | 0,l => NZ.err (by decide)
 | f + 1,l => by
  unfold Tx.pty
  split
  ·exact NZ.err (by decide)
  split
  ·exact NZ.ok
  have h1:=must_nz [40] (l.dropWhile Sch.low)
  split
  ·rename_i e he;exact h1.same he
  rename_i r hr
  have h2:=pty_nz f r
  split
  ·rename_i e he;exact h2.same he
  rename_i t r2 hr2
  have h3:=must_nz [41] r2
  split
  ·rename_i e he;exact h3.same he
  ·exact NZ.ok
theorem pq_nz (q:UInt8):∀ (m:Nat) (l:Tx.Bs),l.length ≤ m → NZ (Tx.pq q l)
 | m,[],_ => by unfold Tx.pq;exact NZ.err (by decide)
 | 0,c :: r,h => by simp at h
 | m + 1,c :: r,h => by
  unfold Tx.pq
  simp only [List.length_cons] at h
  split
  ·exact NZ.ok
  split
  ·exact NZ.err (by decide)
  split
  ·have h1:=pq_nz q m r (by omega)
   split
   ·rename_i e he;exact h1.same he
   ·exact NZ.ok
  split
  ·exact NZ.err (by decide)
  rename_i d r1
  simp only [List.length_cons] at h
  split
  ·have h1:=pq_nz q m r1 (by omega)
   split
   ·rename_i e he;exact h1.same he
   ·exact NZ.ok
  split
  ·rename_i a b r2
   simp only [List.length_cons] at h
   split
   ·have h1:=pq_nz q m r2 (by omega)
    split
    ·rename_i e he;exact h1.same he
    ·exact NZ.ok
   ·exact NZ.err (by decide)
  ·exact NZ.err (by decide)
theorem pseq_nz {α:Type} (p:Tx.Bs → Tx.R (α × Tx.Bs)) (hp:∀ l,NZ (p l)) (hs:∀ l x r,p l = .ok (x,r) → r.length ≤ l.length):∀ (n:Nat) (l:Tx.Bs),l.length < n → NZ (Tx.pseq p n l)
 | 0,l,h => by omega
 | n + 1,l,h => by
  unfold Tx.pseq
  have h1:=hp l
  split
  ·rename_i e he;exact h1.same he
  rename_i x r hr
  have h2:=hs l x r hr
  split
  ·have h3:=must_nz [44,32] r
   split
   ·rename_i e he;exact h3.same he
   rename_i r2 hr2
   have h4:=must_len _ _ _ hr2
   simp only [List.length_cons,List.length_nil] at h4
   have h5:=pseq_nz p hp hs n r2 (by omega)
   split
   ·rename_i e he;exact h5.same he
   ·exact NZ.ok
  ·exact NZ.ok
section
variable {rf:Tx.Bs → Option Nat} (hF:RfOk rf)
include hF
theorem pval_short (f:Nat) (l:Tx.Bs) (x:V) (r:Tx.Bs) (h:Tx.pval rf f l = .ok (x,r)):r.length ≤ l.length:=by
 have g:=(Tx.pval_fore (rf_fok hF) f l x r h).text
 rw [g,List.length_append]
 omega
theorem pcol_short (l:Tx.Bs) (x:Col) (r:Tx.Bs) (h:Tx.pcol rf l = .ok (x,r)):r.length ≤ l.length:=by
 have g:=(Tx.pcol_fore (rf_fok hF) h).1
 rw [g,List.length_append]
 omega
theorem pval_nz:∀ (f:Nat) (l:Tx.Bs),NZ (Tx.pval rf f l)
 | 0,l => by rw [Tx.pval];exact NZ.err (by decide)
 | f + 1,[] => by rw [Tx.pval];exact NZ.err (by decide)
 | f + 1,c :: t => by
  have ih:=pval_nz f
  have hq:∀ k q,NZ (pqv k q (c :: t)):=fun k q => by
   unfold pqv pquo
   exact ((must_nz _ _).m fun r _ => pq_nz q r.length r (Nat.le_refl _)).p fun x r _ => NZ.ok
  rw [pval_at]
  split
  ·unfold pwrd
   split
   ·exact NZ.ok
   split
   ·exact NZ.ok
   split
   ·exact NZ.ok
   split
   ·exact (must_nz _ _).m fun r _ => (ih r).p fun x r _ => (must_nz _ _).m fun r _ => NZ.ok
   ·exact NZ.err (by decide)
  split
  ·unfold pnum
   split
   ·exact NZ.err (by decide)
   ·exact NZ.ok
  split
  ·unfold pflo
   refine (must_nz _ _).m fun r _ => ?_
   split
   ·exact NZ.err (by decide)
   ·exact NZ.ok
  split
  ·exact hq _ _
  split
  ·exact hq _ _
  unfold plst
  refine (must_nz _ _).m fun r _ => ?_
  split
  ·exact (must_nz _ _).m fun r _ => NZ.ok
  ·exact (pseq_nz _ ih (pval_short hF f) _ _ (Nat.lt_succ_self _)).p fun x r _ => (must_nz _ _).m fun r _ => NZ.ok
theorem pcol_nz (l:Tx.Bs):NZ (Tx.pcol rf l):=by
 unfold Tx.pcol
 split
 ·exact NZ.err (by decide)
 have h1:=must_nz [32] (l.dropWhile Sch.ch)
 split
 ·rename_i e he;exact h1.same he
 rename_i r hr
 have h2:=pty_nz 4 r
 split
 ·rename_i e he;exact h2.same he
 rename_i t r2 hr2
 split
 ·have h3:=must_nz [32,61,32] r2
  split
  ·rename_i e he;exact h3.same he
  rename_i r3 hr3
  have h4:=pval_nz hF 4 r3
  split
  ·rename_i e he;exact h4.same he
  ·exact NZ.ok
 ·exact NZ.ok
theorem prow_nz (l:Tx.Bs):NZ (prow rf l):=by
 unfold prow
 split
 ·exact NZ.ok
 ·exact pseq_nz _ (pval_nz hF 4) (pval_short hF 4) _ _ (Nat.lt_succ_self _)
theorem psch_nz (l:Tx.Bs):NZ (Tx.pseq (Tx.pcol rf) (l.length + 1) l):=pseq_nz _ (pcol_nz hF) (pcol_short hF) _ _ (Nat.lt_succ_self _)
end
theorem tell_zero {α:Type} {S:ByteArray} {y:Tx.R (α × Tx.Bs)} {er:α → Nat} (hy:NZ y) (z:α) (h:errOf (tellR S y er) = 0):tellR S y er = .ok (thOf z (tellR S y er)) ∧ plOf (tellR S y er) = 0:=by
 have h1:∀ k n,tellR S y er = .error (k,n) → k ≠ 0:=by
  intro k n e
  unfold tellR at e
  split at e
  ·rename_i k' n'
   injection e with e
   injection e with e1 e2
   rw [← e1];exact hy _ _ rfl
  ·split at e
   ·split at e
    ·cases e
    ·rename_i h0
     injection e with e
     injection e with e1 e2
     rw [← e1];exact h0
   ·injection e with e
    injection e with e1 e2
    omega
 generalize tellR S y er = R at h h1 ⊢
 match R,h,h1 with
 | .ok x,_,_ => exact ⟨rfl,rfl⟩
 | .error (k,n),h,h1 => exact absurd h (h1 k n rfl)
end Go.Proofs.YtkooafdhceeeoaaGreatDoor
namespace Go.Proofs.YtkooafdhceeeoaaGreatDoor
open Go.RowKit
attribute [local go_sem] run_store_float
theorem toList_mk {S:ByteArray} {l:Tx.Bs} (h:S.data.toList = l):S = ⟨l.toArray⟩:=by
 rw [← h]
theorem len_list (S:ByteArray):S.data.toList.length = S.size:=by rw [Array.length_toList];rfl
theorem ParseTypeG (S:ByteArray) (hS:S.size ≤ 1099511627776):∃ (er pl:Nat) (x:Ty),(er = 0 → pl = 0 ∧ Ty.check 1 x = 0 ∧ (⟨(Tx.ty x).toArray⟩:ByteArray) = S) ∧ ∀ w,Hv w → Calls Tryz.prog 18 #[.string S] w fun e w' => ∃ k p n c,e = .returned (.tuple #[.agg #[.int .i64 k,.slice p n c],.int .i64 (er:Nat),.int .i64 (pl:Nat)]) ∧ TLies w' #[.int .i64 k,.slice p n c] x ∧ Below w.heap.size w w':=by
 refine ⟨errOf (tellR S (Tx.pty 4 S.data.toList) (Ty.check 1)),plOf (tellR S (Tx.pty 4 S.data.toList) (Ty.check 1)),thOf (.mk 0 []) (tellR S (Tx.pty 4 S.data.toList) (Ty.check 1)),fun h => ?_,fun w hv => ParseTypeL S (by omega) w hv⟩
 obtain ⟨h1,h2⟩:=tell_zero (pty_nz _ _) (.mk 0 []) h
 obtain ⟨h3,h4⟩:=foreT h1
 exact ⟨h2,h4,(toList_mk h3).symm⟩
theorem ParseValueG (S:ByteArray) (hS:S.size ≤ 1099511627776):∃ (er pl:Nat) (x:V),(er = 0 → pl = 0 ∧ chk 1 x = 0 ∧ (⟨(Tx.val text x).toArray⟩:ByteArray) = S) ∧ x.wf ∧ ∀ w,Hv w → Calls Tryz.prog 24 #[.string S] w fun e w' => ∃ k i b t p n c,e = .returned (.tuple #[.agg #[.int .i64 k,.int .i64 i,.float .f64 b,.string t,.slice p n c],.int .i64 (er:Nat),.int .i64 (pl:Nat)]) ∧ VLies w' #[.int .i64 k,.int .i64 i,.float .f64 b,.string t,.slice p n c] x ∧ Below w.heap.size w w':=by
 obtain ⟨rf,hRf⟩:=rf_ex
 have hl:S.data.toList.length ≤ 140737488351232:=by rw [len_list];omega
 refine ⟨errOf (tellR S (Tx.pval rf 4 S.data.toList) (chk 1)),plOf (tellR S (Tx.pval rf 4 S.data.toList) (chk 1)),thOf (.mk 0 0 0 ⟨#[]⟩ []) (tellR S (Tx.pval rf 4 S.data.toList) (chk 1)),fun h => ?_,?_,fun w hv => ParseValueL hRf S hS w hv⟩
 ·obtain ⟨h1,h2⟩:=tell_zero (pval_nz hRf _ _) (.mk 0 0 0 ⟨#[]⟩ []) h
  obtain ⟨h3,h4,-,-⟩:=foreV hRf h1 hl
  exact ⟨h2,h4,(toList_mk h3).symm⟩
 ·cases hR:tellR S (Tx.pval rf 4 S.data.toList) (chk 1) with
  | ok x => exact (foreV hRf hR hl).2.2.2
  | error e => exact V.wf_mk.2 ⟨by decide,by decide,by decide,by decide,fun x hx => by cases hx⟩
theorem ParseSchemaG (S:ByteArray) (hS:S.size ≤ 1099511627776):∃ (er pl:Nat) (x:List Col),(er = 0 → pl = 0 ∧ Sch.err x = 0 ∧ (⟨(Tx.sch text x).toArray⟩:ByteArray) = S) ∧ (∀ c ∈ x,c.wf) ∧ ∀ w,Hv w → Calls Tryz.prog 21 #[.string S] w fun e w' => ∃ q c,e = .returned (.tuple #[.agg #[.slice q x.length c],.int .i64 (er:Nat),.int .i64 (pl:Nat)]) ∧ Cols w' q x ∧ x.length * 120 ≤ 140737488351232 ∧ Below w.heap.size w w':=by
 obtain ⟨rf,hRf⟩:=rf_ex
 have hl:S.data.toList.length ≤ 140737488351232:=by rw [len_list];omega
 refine ⟨_,_,_,fun h => ?_,?_,fun w hv => ParseSchemaL hRf S hS w hv⟩
 ·obtain ⟨h1,h2⟩:=tell_zero (psch_nz hRf _) [] h
  obtain ⟨h3,h4,-,-⟩:=foreS hRf h1 hl
  exact ⟨h2,h4,(toList_mk h3).symm⟩
 ·cases hR:tellR S (Tx.pseq (Tx.pcol rf) (S.data.toList.length + 1) S.data.toList) Sch.err with
  | ok x => exact (foreS hRf hR hl).2.2.2
  | error e => exact fun c hc => by cases hc
theorem ParseRowG (S:ByteArray) (hS:S.size ≤ 1099511627776):∃ (er pl:Nat) (x:List V),(er = 0 → pl = 0 ∧ rowErr x = 0 ∧ (⟨(Tx.row text x).toArray⟩:ByteArray) = S) ∧ (∀ v ∈ x,v.wf) ∧ (Tx.row text x).length ≤ 139000000000000 ∧ ∀ w,Hv w → Calls Tryz.prog 27 #[.string S] w fun e w' => ∃ q c,e = .returned (.tuple #[.agg #[.slice q x.length c],.int .i64 (er:Nat),.int .i64 (pl:Nat)]) ∧ Items w' q x ∧ x.length * 64 ≤ 140737488351232 ∧ Below w.heap.size w w':=by
 obtain ⟨rf,hRf⟩:=rf_ex
 have hl:S.data.toList.length ≤ 140737488351232:=by rw [len_list];omega
 refine ⟨_,_,_,fun h => ?_,?_,?_,fun w hv => ParseRowL hRf S hS w hv⟩
 ·obtain ⟨h1,h2⟩:=tell_zero (prow_nz hRf _) [] h
  obtain ⟨h3,h4,-,-⟩:=foreR hRf h1 hl
  exact ⟨h2,h4,(toList_mk h3).symm⟩
 ·cases hR:tellR S (prow rf S.data.toList) rowErr with
  | ok x => exact (foreR hRf hR hl).2.2.2
  | error e => exact fun c hc => by cases hc
 ·cases hR:tellR S (prow rf S.data.toList) rowErr with
  | ok x =>
   have h3:=(foreR hRf hR hl).1
   show (Tx.row text x).length ≤ _
   rw [← h3,len_list];omega
  | error e => simp [thOf,Tx.row,Tx.join]
theorem againX (S:ByteArray) (hS:S.size ≤ 1099511627776) (w:World) (hv:Hv w):Calls Tryz.prog 30 #[.string S] w fun e w' => e = .returned (.bool true) ∧ Below w.heap.size w w':=by
 obtain ⟨er1,pl1,x1,ht1,hc1⟩:=ParseTypeG S hS
 obtain ⟨er2,pl2,x2,ht2,hw2,hc2⟩:=ParseSchemaG S hS
 obtain ⟨er3,pl3,x3,ht3,hw3,hc3⟩:=ParseValueG S hS
 obtain ⟨er4,pl4,x4,ht4,hw4,hr4,hc4⟩:=ParseRowG S hS
 have HHv:=Lib.hid (fun w' (hb:Below w.heap.size w w') => hv.on hb hv.size)
 have HA1:=Lib.hid (hc1 w hv)
 have HA2:=Lib.hid hc2
 have HA3:=Lib.hid hc3
 have HA4:=Lib.hid hc4
 have HP1:=Lib.hid (fun w' u (h:Hv w') (hl:TLies w' u x1) => PrintTypeX x1 w' u h hl)
 have HP2:=Lib.hid (fun w' q c (h:Hv w') (hl:x2.length * 120 ≤ 140737488351232) (hx:Cols w' q x2) => PrintSchemaX x2 q c w' h hl hx hw2)
 have HP3:=Lib.hid (fun w' u (h:Hv w') (hl:VLies w' u x3) => PrintValueX x3 w' u h hl hw3)
 have HP4:=Lib.hid (fun w' q c (h:Hv w') (hl:x4.length * 64 ≤ 140737488351232) (hx:Items w' q x4) => PrintRowX x4 q c w' h hl hx hw4 (fun _ => hr4))
 obtain ⟨f1,hf1⟩:∃ f,f = Ty.check 1 x1:=⟨_,rfl⟩
 obtain ⟨T1,hT1⟩:∃ T:ByteArray,T = ⟨(if f1 = 0 then Tx.ty x1 else []).toArray⟩:=⟨_,rfl⟩
 have HF1:Hid (((er1:Int) != 0) = true ∨ (((er1:Int) != 0) = false ∧ ((f1:Int) == 0) = true ∧ T1 = S)):=by
  by_cases h:er1 = 0
  ·obtain ⟨-,h2,h3⟩:=ht1 h
   refine .inr ⟨bne_f (by omega),?_,?_⟩
   ·rw [hf1,h2];rfl
   ·rw [hT1,hf1,h2,if_pos rfl];exact h3
  ·exact .inl (bne_t (by omega))
 unfold PrnR at HP1
 rw [← hf1,← hT1] at HP1
 obtain ⟨f2,hf2⟩:∃ f,f = Sch.err x2:=⟨_,rfl⟩
 obtain ⟨T2,hT2⟩:∃ T:ByteArray,T = ⟨(if f2 = 0 then Tx.sch text x2 else []).toArray⟩:=⟨_,rfl⟩
 have HF2:Hid (((er2:Int) != 0) = true ∨ (((er2:Int) != 0) = false ∧ ((f2:Int) == 0) = true ∧ T2 = S)):=by
  by_cases h:er2 = 0
  ·obtain ⟨-,h2,h3⟩:=ht2 h
   refine .inr ⟨bne_f (by omega),?_,?_⟩
   ·rw [hf2,h2];rfl
   ·rw [hT2,hf2,h2,if_pos rfl];exact h3
  ·exact .inl (bne_t (by omega))
 unfold PrnR at HP2
 rw [← hf2,← hT2] at HP2
 obtain ⟨f3,hf3⟩:∃ f,f = chk 1 x3:=⟨_,rfl⟩
 obtain ⟨T3,hT3⟩:∃ T:ByteArray,T = ⟨(if f3 = 0 then Tx.val text x3 else []).toArray⟩:=⟨_,rfl⟩
 have HF3:Hid (((er3:Int) != 0) = true ∨ (((er3:Int) != 0) = false ∧ ((f3:Int) == 0) = true ∧ T3 = S)):=by
  by_cases h:er3 = 0
  ·obtain ⟨-,h2,h3⟩:=ht3 h
   refine .inr ⟨bne_f (by omega),?_,?_⟩
   ·rw [hf3,h2];rfl
   ·rw [hT3,hf3,h2,if_pos rfl];exact h3
  ·exact .inl (bne_t (by omega))
 unfold PrnR at HP3
 rw [← hf3,← hT3] at HP3
 obtain ⟨f4,hf4⟩:∃ f,f = rowErr x4:=⟨_,rfl⟩
 obtain ⟨T4,hT4⟩:∃ T:ByteArray,T = ⟨(if f4 = 0 then Tx.row text x4 else []).toArray⟩:=⟨_,rfl⟩
 have HF4:Hid (((er4:Int) != 0) = true ∨ (((er4:Int) != 0) = false ∧ ((f4:Int) == 0) = true ∧ T4 = S)):=by
  by_cases h:er4 = 0
  ·obtain ⟨-,h2,h3⟩:=ht4 h
   refine .inr ⟨bne_f (by omega),?_,?_⟩
   ·rw [hf4,h2];rfl
   ·rw [hT4,hf4,h2,if_pos rfl];exact h3
  ·exact .inl (bne_t (by omega))
 unfold PrnR at HP4
 rw [← hf4,← hT4] at HP4
 clear ht1 ht2 ht3 ht4 hc1 hc2 hc3 hc4 hw2 hw3 hw4 hr4 hv hS hf1 hf2 hf3 hf4 hT1 hT2 hT3 hT4
 go_enter Tryz.func30,Tryz.ntmps30
 go_wp2_with fail
 refine (HA1.out).mono ?_
 rintro e v1 ⟨k1,p1,n1,c1,rfl,hl,hb⟩
 obtain ⟨W1,hW⟩:∃ W,W = v1.alloc (.cells #[.int .i64 k1,.slice p1 n1 c1] 24):=⟨_,rfl⟩
 have hbw:Below v1.heap.size v1 W1:=by rw [hW];exact (Below.refl _ _).alloc (Nat.le_refl _) _
 have hk:W1.heap[v1.heap.size]? = some (.cells #[.int .i64 k1,.slice p1 n1 c1] 24 (0,0)):=by rw [hW];exact blk_new v1 _
 have hb':=hb.trans (hbw.mono hb.size)
 have HC1:=Lib.hid (hb')
 have m0:W1.cell? ⟨v1.heap.size,0,none⟩ = some (.int .i64 k1):=blk_cell hk 0
 have m1:W1.cell? ⟨v1.heap.size,1,none⟩ = some (.slice p1 n1 c1):=blk_cell hk 1
 have HQ:=Lib.hid (HP1.out W1 _ (HHv.out _ HC1.out) (hl.on hbw))
 have HW:=Lib.hid hW
 clear hl hb hbw hk hW hb' HA1 HP1
 go_wp2_with fail
 rw [← HW.out]
 refine HQ.out.mono ?_
 rintro e w3 ⟨rfl,hb⟩
 have HB3:=Lib.hid (HC1.out.trans (hb.mono HC1.out.size))
 clear hb HQ HW m0 m1
 go_wp2_with fail
 refine (HA2.out w3 (HHv.out _ HB3.out)).mono ?_
 rintro e v2 ⟨q2,c2,rfl,hl,hn,hb⟩
 obtain ⟨W2,hW⟩:∃ W,W = v2.alloc (.cells #[.slice q2 x2.length c2] 27):=⟨_,rfl⟩
 have hbw:Below v2.heap.size v2 W2:=by rw [hW];exact (Below.refl _ _).alloc (Nat.le_refl _) _
 have hk:W2.heap[v2.heap.size]? = some (.cells #[.slice q2 x2.length c2] 27 (0,0)):=by rw [hW];exact blk_new v2 _
 have hb':=hb.trans (hbw.mono hb.size)
 have HC2:=Lib.hid (HB3.out.trans (hb'.mono HB3.out.size))
 have m0:W2.cell? ⟨v2.heap.size,0,none⟩ = some (.slice q2 x2.length c2):=blk_cell hk 0
 have HQ:=Lib.hid (HP2.out W2 q2 c2 (HHv.out _ HC2.out) hn (hl.on hbw))
 have HW:=Lib.hid hW
 clear hl hn hb hbw hk hW hb' HA2 HP2
 go_wp2_with fail
 rw [← HW.out]
 refine HQ.out.mono ?_
 rintro e w5 ⟨rfl,hb⟩
 have HB5:=Lib.hid (HC2.out.trans (hb.mono HC2.out.size))
 clear hb HQ HW m0
 go_wp2_with fail
 refine (HA3.out w5 (HHv.out _ HB5.out)).mono ?_
 rintro e v3 ⟨k3,i3,b3,t3,p3,n3,c3,rfl,hl,hb⟩
 obtain ⟨W3,hW⟩:∃ W,W = v3.alloc (.cells #[.int .i64 k3,.int .i64 i3,.float .f64 b3,.string t3,.slice p3 n3 c3] 31):=⟨_,rfl⟩
 have hbw:Below v3.heap.size v3 W3:=by rw [hW];exact (Below.refl _ _).alloc (Nat.le_refl _) _
 have hk:W3.heap[v3.heap.size]? = some (.cells #[.int .i64 k3,.int .i64 i3,.float .f64 b3,.string t3,.slice p3 n3 c3] 31 (0,0)):=by rw [hW];exact blk_new v3 _
 have hb':=hb.trans (hbw.mono hb.size)
 have HC3:=Lib.hid (HB5.out.trans (hb'.mono HB5.out.size))
 have m0:W3.cell? ⟨v3.heap.size,0,none⟩ = some (.int .i64 k3):=blk_cell hk 0
 have m1:W3.cell? ⟨v3.heap.size,1,none⟩ = some (.int .i64 i3):=blk_cell hk 1
 have m2:W3.cell? ⟨v3.heap.size,2,none⟩ = some (.float .f64 b3):=blk_cell hk 2
 have m3:W3.cell? ⟨v3.heap.size,3,none⟩ = some (.string t3):=blk_cell hk 3
 have m4:W3.cell? ⟨v3.heap.size,4,none⟩ = some (.slice p3 n3 c3):=blk_cell hk 4
 have HQ:=Lib.hid (HP3.out W3 _ (HHv.out _ HC3.out) (hl.on hbw))
 have HW:=Lib.hid hW
 clear hl hb hbw hk hW hb' HA3 HP3
 go_wp2_with fail
 rw [← HW.out]
 refine HQ.out.mono ?_
 rintro e w7 ⟨rfl,hb⟩
 have HB7:=Lib.hid (HC3.out.trans (hb.mono HC3.out.size))
 clear hb HQ HW m0 m1 m2 m3 m4
 go_wp2_with fail
 refine (HA4.out w7 (HHv.out _ HB7.out)).mono ?_
 rintro e v4 ⟨q4,c4,rfl,hl,hn,hb⟩
 obtain ⟨W4,hW⟩:∃ W,W = v4.alloc (.cells #[.slice q4 x4.length c4] 33):=⟨_,rfl⟩
 have hbw:Below v4.heap.size v4 W4:=by rw [hW];exact (Below.refl _ _).alloc (Nat.le_refl _) _
 have hk:W4.heap[v4.heap.size]? = some (.cells #[.slice q4 x4.length c4] 33 (0,0)):=by rw [hW];exact blk_new v4 _
 have hb':=hb.trans (hbw.mono hb.size)
 have HC4:=Lib.hid (HB7.out.trans (hb'.mono HB7.out.size))
 have m0:W4.cell? ⟨v4.heap.size,0,none⟩ = some (.slice q4 x4.length c4):=blk_cell hk 0
 have HQ:=Lib.hid (HP4.out W4 q4 c4 (HHv.out _ HC4.out) hn (hl.on hbw))
 have HW:=Lib.hid hW
 clear hl hn hb hbw hk hW hb' HA4 HP4
 go_wp2_with fail
 rw [← HW.out]
 refine HQ.out.mono ?_
 rintro e w9 ⟨rfl,hb⟩
 have HB9:=Lib.hid (HC4.out.trans (hb.mono HC4.out.size))
 clear hb HQ HW m0
 rcases HF1.out with g1 | ⟨g1,j1,s1⟩ <;> rcases HF2.out with g2 | ⟨g2,j2,s2⟩ <;> rcases HF3.out with g3 | ⟨g3,j3,s3⟩ <;> rcases HF4.out with g4 | ⟨g4,j4,s4⟩
 all_goals
  clear HF1 HF2 HF3 HF4
  go_wp2
  go_ret
  exact ⟨rfl,HB9.out⟩
end Go.Proofs.YtkooafdhceeeoaaGreatDoor
namespace Go.Proofs.YtkooafdhceeeoaaGreatDoor
theorem join_vB:∀ (xs:List V),(∀ x ∈ xs,(Tx.val text x).length + 2 ≤ 110 * (Sch.vB x).length) → (Tx.join (xs.map (Tx.val text))).length ≤ 110 * ((xs.map Sch.vB).flatten).length
 | [],_ => by simp [Tx.join]
 | [x],h => by
  have:=h x (by simp)
  simp [Tx.join]
  omega
 | x :: y :: r,h => by
  have h1:=join_vB (y :: r) (fun z hz => h z (List.mem_cons_of_mem _ hz))
  have h2:=h x (by simp)
  rw [List.map_cons,List.map_cons,Tx.join_cons,List.map_cons,List.flatten_cons,List.length_append]
  rw [List.map_cons] at h1
  simp only [List.length_append,List.length_cons] at h1 ⊢
  omega
theorem val_vB:∀ (x:V) (d:Nat),chk d x = 0 → x.wf → (Tx.val text x).length + 2 ≤ 110 * (Sch.vB x).length:=by
 refine V.ind ?_
 intro k i b t xs ih d h hw
 obtain ⟨h1,ho,h3,h4,-,h6⟩:=Sch.chk_open h
 obtain ⟨hk,-,-,-,-,-,h7⟩:=Sch.own_open ho
 rw [V.wf_mk] at hw
 have hns:t.data.toList.length = t.size:=len_list t
 have hall:∀ x ∈ xs,(Tx.val text x).length + 2 ≤ 110 * (Sch.vB x).length:=fun x hx => ih x hx (d + 1) (h6 x hx) (hw.2.2.2.2 x hx)
 rw [Sch.vB_mk,List.length_append]
 rcases Tx.word_cases hk with rfl | rfl | rfl | rfl | rfl | rfl | rfl
 ·rw [Tx.val_one]
  have:(Sch.vH 1 i b t xs.length).length = 1:=rfl
  split <;> simp <;> omega
 ·rw [Tx.val_two]
  have h8:=itoa_len i hw.2.1
  have h9:Sch.vH 2 i b t xs.length = Leb.put (Leb.zig i):=rfl
  have:=Leb.put_length_pos (Leb.zig i)
  rw [h9]
  omega
 ·rw [Tx.val_three]
  have h8:=text_len b
  have h9:Sch.vH 3 i b t xs.length = Sch.le 8 (fixB b):=rfl
  have h10:(Sch.le 8 (fixB b)).length = 8:=Sch.le_len 8 _
  rw [h9,h10,List.length_cons]
  omega
 ·rw [Tx.val_four]
  have h8:=flat_le 34 t.data.toList
  have h9:Sch.vH 4 i b t xs.length = Leb.put t.size ++ t.data.toList:=rfl
  have:=Leb.put_length_pos t.size
  rw [h9,List.length_append]
  simp only [Tx.quo,List.length_cons,List.length_append,List.length_nil] at h8 ⊢
  omega
 ·rw [Tx.val_five]
  have h8:=flat_le 39 t.data.toList
  have h9:Sch.vH 5 i b t xs.length = Leb.put t.size ++ t.data.toList:=rfl
  have:=Leb.put_length_pos t.size
  rw [h9,List.length_append]
  simp only [Tx.quo,List.length_cons,List.length_append,List.length_nil] at h8 ⊢
  omega
 ·have h9:(Sch.vH 6 i b t xs.length).length = 1:=rfl
  rw [h9]
  match xs,h7 rfl,hall with
  | [],_,_ => rw [Tx.val_none];simp
  | [x],_,hall =>
   have h2:=hall x (by simp)
   rw [Tx.val_some,if_neg (by decide)]
   simp only [List.length_append,List.length_cons,List.length_nil,List.map_cons,List.map_nil,List.flatten_cons,List.flatten_nil,List.append_nil]
   omega
 ·rw [Tx.val_list]
  have h2:=join_vB xs hall
  have h9:Sch.vH 7 i b t xs.length = Leb.put xs.length:=rfl
  have:=Leb.put_length_pos xs.length
  rw [h9,if_neg (by decide)]
  simp only [List.length_append,List.length_cons,List.length_nil]
  omega
theorem col_cB {l:List Col} {c:Col} (h:Sch.colErr l c = 0) (hw:c.wf):(Tx.col text c).length + 2 ≤ 110 * (Sch.cB c).length:=by
 obtain ⟨hnm,-,hty,-,hdf⟩:=Sch.col_open h
 obtain ⟨-,-,wd⟩:=hw
 have h0:=(Sch.name_size hnm).2
 have h1:=ty_len c.ty 1 hty
 have hns:c.name.data.toList.length = c.name.size:=len_list _
 have:=Leb.put_length_pos c.name.size
 unfold Tx.col Sch.cB
 simp only [List.length_append,List.length_cons]
 by_cases hh:c.has = true
 ·have h2:=val_vB c.dflt 1 (hdf hh).1 wd
  rw [if_pos hh,if_pos hh]
  simp only [List.length_cons]
  omega
 ·rw [if_neg hh,if_neg hh]
  simp only [List.length_nil]
  omega
theorem join_cB:∀ (s:List Col),(∀ x ∈ s,(Tx.col text x).length + 2 ≤ 110 * (Sch.cB x).length) → (Tx.join (s.map (Tx.col text))).length ≤ 110 * ((s.map Sch.cB).flatten).length
 | [],_ => by simp [Tx.join]
 | [x],h => by
  have:=h x (by simp)
  simp [Tx.join]
  omega
 | x :: y :: r,h => by
  have h1:=join_cB (y :: r) (fun z hz => h z (List.mem_cons_of_mem _ hz))
  have h2:=h x (by simp)
  rw [List.map_cons,List.map_cons,Tx.join_cons,List.map_cons,List.flatten_cons,List.length_append]
  rw [List.map_cons] at h1
  simp only [List.length_append,List.length_cons] at h1 ⊢
  omega
theorem sch_small {s:List Col} (h:Sch.err s = 0) (hw:∀ x ∈ s,x.wf):(Tx.sch text s).length ≤ 112640:=by
 obtain ⟨-,h16,hce,hb⟩:=Sch.err_open h
 have hj:=join_cB s (fun x hx => by
  obtain ⟨l',hl'⟩:=Sch.colsErr_mem s [] hce x hx
  exact col_cB hl' (hw x hx))
 unfold Sch.bytes at hb
 rw [List.length_append] at hb
 unfold Tx.sch
 omega
end Go.Proofs.YtkooafdhceeeoaaGreatDoor
namespace Go.Proofs.YtkooafdhceeeoaaGreatDoor
open Go.RowKit
attribute [local go_sem] run_store_float
theorem BackT (x:Ty) (h:Ty.check 1 x = 0) (w:World) (hv:Hv w):Calls Tryz.prog 18 #[.string ⟨(Tx.ty x).toArray⟩] w fun e w' => ∃ k p n c,e = .returned (.tuple #[.agg #[.int .i64 k,.slice p n c],.int .i64 0,.int .i64 0]) ∧ TLies w' #[.int .i64 k,.slice p n c] x ∧ Below w.heap.size w w':=by
 have hl:=ty_len x 1 h
 refine (ParseTypeL ⟨(Tx.ty x).toArray⟩ (by show (Tx.ty x).toArray.size ≤ _;rw [List.size_toArray];omega) w hv).mono ?_
 have hb:=backT (S:=⟨(Tx.ty x).toArray⟩) h
 rintro e w' ⟨k,p,n,c,he,h1,h2⟩
 rw [hb] at he h1
 exact ⟨k,p,n,c,he,h1,h2⟩
theorem BackV (x:V) (h:chk 1 x = 0) (hw:x.wf) (w:World) (hv:Hv w):Calls Tryz.prog 24 #[.string ⟨(Tx.val text x).toArray⟩] w fun e w' => ∃ k i b t p n c,e = .returned (.tuple #[.agg #[.int .i64 k,.int .i64 i,.float .f64 b,.string t,.slice p n c],.int .i64 0,.int .i64 0]) ∧ VLies w' #[.int .i64 k,.int .i64 i,.float .f64 b,.string t,.slice p n c] (V.fix x) ∧ Below w.heap.size w w':=by
 obtain ⟨rf,hRf⟩:=rf_ex
 have hl:=val_short (tx:=text) text_len h (Nat.le_refl _) hw
 refine (ParseValueL hRf ⟨(Tx.val text x).toArray⟩ (by show (Tx.val text x).toArray.size ≤ _;rw [List.size_toArray];omega) w hv).mono ?_
 have hb:=backV hRf (S:=⟨(Tx.val text x).toArray⟩) h hw
 rintro e w' ⟨k,i,b,t,p,n,c,he,h1,h2⟩
 rw [hb] at he h1
 exact ⟨k,i,b,t,p,n,c,he,h1,h2⟩
theorem BackS (s:List Col) (h:Sch.err s = 0) (hw:∀ c ∈ s,c.wf) (w:World) (hv:Hv w):Calls Tryz.prog 21 #[.string ⟨(Tx.sch text s).toArray⟩] w fun e w' => ∃ q c,e = .returned (.tuple #[.agg #[.slice q (s.map Col.fix).length c],.int .i64 0,.int .i64 0]) ∧ Cols w' q (s.map Col.fix) ∧ Below w.heap.size w w':=by
 obtain ⟨rf,hRf⟩:=rf_ex
 have hl:=sch_small h hw
 refine (ParseSchemaL hRf ⟨(Tx.sch text s).toArray⟩ (by show (Tx.sch text s).toArray.size ≤ _;rw [List.size_toArray];omega) w hv).mono ?_
 have hb:=backS hRf (S:=⟨(Tx.sch text s).toArray⟩) h hw
 rintro e w' ⟨q,c,he,h1,-,h2⟩
 rw [hb] at he h1
 exact ⟨q,c,he,h1,h2⟩
theorem BackR (s:List V) (h:rowErr s = 0) (hw:∀ c ∈ s,c.wf) (hl:(Tx.row text s).length ≤ 1099511627776) (w:World) (hv:Hv w):Calls Tryz.prog 27 #[.string ⟨(Tx.row text s).toArray⟩] w fun e w' => ∃ q c,e = .returned (.tuple #[.agg #[.slice q (s.map V.fix).length c],.int .i64 0,.int .i64 0]) ∧ Items w' q (s.map V.fix) ∧ Below w.heap.size w w':=by
 obtain ⟨rf,hRf⟩:=rf_ex
 refine (ParseRowL hRf ⟨(Tx.row text s).toArray⟩ (by show (Tx.row text s).toArray.size ≤ _;rw [List.size_toArray];exact hl) w hv).mono ?_
 have hb:=backR hRf (S:=⟨(Tx.row text s).toArray⟩) h hw
 rintro e w' ⟨q,c,he,h1,-,h2⟩
 rw [hb] at he h1
 exact ⟨q,c,he,h1,h2⟩
theorem refSameRow (xs ys:List V) (p q:Option Addr) (c d:Nat) (w:World) (hx:Items w p xs) (hy:Items w q ys) (hl:xs.length * 64 ≤ 140737488351232) :
  Calls Tryz.prog 29 #[.agg #[.slice p xs.length c],.agg #[.slice q ys.length d]] w fun e w' => e = .returned (.bool (V.sameL xs ys)) ∧ Below w.heap.size w w':=by
 obtain ⟨W0,hW0⟩:∃ W0,W0 = (w.alloc (.cells #[.slice p xs.length c] 33)).alloc (.cells #[.slice q ys.length d] 33):=⟨_,rfl⟩
 have hb0:Below w.heap.size w W0:=by rw [hW0];exact ((Below.refl _ _).alloc (Nat.le_refl _) _).alloc (by simp) _
 have c0:W0.cell? ⟨w.heap.size,0,none⟩ = some (.slice p xs.length c):=by rw [hW0];simp
 have c1:W0.cell? ⟨w.heap.size + 1,0,none⟩ = some (.slice q ys.length d):=by rw [hW0];simp
 have HC:=Lib.hid (refSameList_of xs (fun x _ y w u v => refSame6 x y w u v) ys W0 p q c d (hx.on hb0) (hy.on hb0) hl)
 have HB0:=Lib.hid hb0
 have HW0:=Lib.hid hW0
 obtain ⟨n,hn⟩:∃ n,n = xs.length:=⟨_,rfl⟩
 obtain ⟨m,hm⟩:∃ m,m = ys.length:=⟨_,rfl⟩
 obtain ⟨B,hB⟩:∃ B,B = V.sameL xs ys:=⟨_,rfl⟩
 rw [← hn] at HC HW0 c0 ⊢
 rw [← hm] at HC HW0 c1 ⊢
 rw [← hB] at HC ⊢
 clear hW0 hb0 hx hy hl hn hm hB
 go_enter Tryz.func29,Tryz.ntmps29
 go_wp2_with fail
 rw [← HW0.out]
 refine HC.out.mono ?_
 rintro e w1 ⟨rfl,hb1⟩
 have HB1:=Lib.hid (HB0.out.trans (hb1.mono HB0.out.size))
 clear hb1 HC
 go_wp2
 go_ret
 exact ⟨rfl,HB1.out⟩
theorem sameL_fix:∀ xs:List V,V.sameL xs (xs.map V.fix) = true
 | [] => rfl
 | x :: l => by
  have h1:V.same x (V.fix x) = true:=(same_iff _ _).2 (fix_idem x).symm
  have h2:=sameL_fix l
  rw [List.map_cons]
  show (V.same x (V.fix x) && V.sameL l (l.map V.fix)) = true
  rw [h1,h2]
  rfl
theorem sameS_fix (s:List Col):Sch.same s (s.map Col.fix) = true:=(Sch.same_fix _ _).2 (by
 rw [List.map_map]
 refine List.map_congr_left fun c hc => ?_
 show c.fix = (c.fix).fix
 unfold Col.fix
 rw [fix_idem])
end Go.Proofs.YtkooafdhceeeoaaGreatDoor
