import Derived.Test.YtllbniljgcgbeaaGreatDoorA12
namespace Go.Proofs.YtllbniljgcgbeaaGreatDoor
open Tx
def eE:Bs->Option UInt8
 |x::a::b::_=>if x=120∧half a<16∧half b<16∧¬(32<=16*half a+half b∧16*half a+half b<=126) then some (UInt8.ofNat (16*half a+half b)) else none
 |_=>none
def fo(q:UInt8)(r:Bs):R (UInt8×Bs):=match r with
 | []=>.error (5,1)
 |d::r1=>if d=92∨d=q then .ok (d,r1) else match eE (d::r1) with
  |some c=>.ok (c,r1.drop 2)
  |none=>.error (5,r1.length+2)
def pre(xs:Bs)(x:R (Bs×Bs)):R (Bs×Bs):=match x with
 |.error e=>.error e
 |.ok (y,r)=>.ok (xs++y,r)
theorem pre_nil(x:R (Bs×Bs)):pre [] x=x:=by
 cases x with
 |error e=>rfl
 |ok p=>rfl
theorem eb(xs ys:Bs)(x:R (Bs×Bs)):pre xs (pre ys x)=pre (xs++ys) x:=by
 cases x with
 |error e=>rfl
 |ok p=>show Except.ok (xs++(ys++p.1),p.2)=Except.ok ((xs++ys)++p.1,p.2);rw[List.append_assoc]
theorem pf{q c:UInt8}(h:plq q c=true):(32<=c.toNat∧c.toNat<=126)∧c≠92∧c≠q:=by
 unfold plq at h
 simp only[Bool.and_eq_true,decide_eq_true_eq,Bool.not_eq_true',decide_eq_false_iff_not] at h
 exact⟨h.1.1,h.1.2,h.2⟩
theorem o8(q c:UInt8)(r:Bs)(h:plq q c=true):pq q (c::r)=pre [c] (pq q r):=by
 obtain⟨h1,h2,h3⟩:=pf h
 rw[pq.eq_def]
 dsimp only
 rw[if_neg h3,if_neg (by omega),if_pos h2]
 cases pq q r with
 |error e=>rfl
 |ok p=>rfl
theorem kA(q:UInt8):∀(w r:Bs),(∀c∈w,plq q c=true)->pq q (w++r)=pre w (pq q r)
 | [],r,_=>(pre_nil _).symm
 |c::w,r,h=>by
  rw[List.cons_append,o8 q c _ (h c (by simp)),kA q w r (fun x hx=>h x (List.mem_cons_of_mem _ hx)),eb]
  rfl
theorem rV(q:UInt8)(hq:q≠92)(r:Bs):pq q (92::r)=aB (fo q r) fun c r=>pre [c] (pq q r):=by
 match r with
 | []=>
  rw[pq.eq_def]
  dsimp only
  rw[if_neg (fun hc=>hq hc.symm),if_neg (by decide),if_neg (by decide)]
  rfl
 |d::r1=>
  rw[pq.eq_def]
  dsimp only
  rw[if_neg (fun hc=>hq hc.symm),if_neg (by decide),if_neg (by decide)]
  by_cases h:d=q∨d=92
  ·rw[if_pos h]
   have e:fo q (d::r1)=.ok (d,r1):=by
    unfold fo
    dsimp only
    rw[if_pos (Or.comm.1 h)]
   rw[e]
   show _=pre [d] (pq q r1)
   cases pq q r1 with
   |error e=>rfl
   |ok p=>rfl
  ·rw[if_neg h]
   have e:fo q (d::r1)=match eE (d::r1) with
    |some c=>.ok (c,r1.drop 2)
    |none=>.error (5,r1.length+2):=by
    unfold fo
    dsimp only
    rw[if_neg (fun hc=>h (Or.comm.1 hc))]
   rw[e]
   match r1 with
   | []=>rfl
   | [a]=>rfl
   |a::b::r2=>
    dsimp only[eE]
    by_cases hh:d=120∧half a<16∧half b<16∧¬(32<=16*half a+half b∧16*half a+half b<=126)
    ·rw[if_pos hh,if_pos hh]
     show _=pre [_] (pq q r2)
     cases pq q r2 with
     |error e=>rfl
     |ok p=>rfl
    ·rw[if_neg hh,if_neg hh]
     rfl
theorem qD(q:UInt8)(l:Bs)(h1:∀c,l.head?=some c->plq q c=false)(h2:l.head?≠some 92):pq q l=az (must [q] l) fun r=>.ok ([],r):=by
 match l with
 | []=>rfl
 |c::r=>
  have hc:=h1 c rfl
  have hc2:c≠92:=fun hc=>h2 (by rw[hc];rfl)
  by_cases hq:c=q
  ·rw[pq.eq_def]
   dsimp only
   rw[if_pos hq]
   show _=az (if c=q then must [] r else _) _
   rw[if_pos hq]
   rfl
  ·have hr:c.toNat<32∨126<c.toNat:=by
    unfold plq at hc
    rw[decide_eq_false hc2,decide_eq_false hq] at hc
    simp at hc
    omega
   rw[pq.eq_def]
   dsimp only
   rw[if_neg hq,if_pos hr]
   show _=az (if c=q then must [] r else _) _
   rw[if_neg hq]
   rfl
def jD(q:UInt8)(l:Bs):R (Bs×Bs):=az (must [q] l) (pq q)
theorem iX(p:Bs->R (V×Bs)):∀(n:Nat) (l:Bs),aB (pits p n l) (fun xs r=>az (must [93] r) fun r=>.ok (xs,r))=aB (pseq p n l) (fun xs r=>az (must [93] r) fun r=>.ok (xs,r))
 |0,l=>rfl
 |n+1,l=>by
  have ih:=iX p n
  rw[pits,pseq]
  cases hp:p l with
  |error e=>rfl
  |ok y=>
   obtain⟨x,r⟩:=y
   dsimp only
   match r with
   | []=>rfl
   |c::r=>
    by_cases h93:c=93
    ·subst h93
     rw[if_pos (show((93:UInt8)::r).head?=some 93 from rfl),if_neg (show ¬((93:UInt8)::r).head?=some 44 by simp)]
    ·by_cases h44:c=44
     ·subst h44
      rw[if_neg (show ¬((44:UInt8)::r).head?=some 93 by simp),if_pos (show((44:UInt8)::r).head?=some 44 from rfl)]
      cases hm:must [44,32] (44::r) with
      |error e=>rfl
      |ok r1=>
       dsimp only
       have h1:=ih r1
       cases h2:pits p n r1 with
       |error e=>
        rw[h2] at h1
        cases h3:pseq p n r1 with
        |error e'=>
         rw[h3] at h1
         injection h1 with h1
         rw[h1]
        |ok y=>
         rw[h3] at h1
         dsimp only[aB] at h1 ⊢
         cases h4:must [93] y.2 with
         |error e'=>
          rw[h4] at h1
          dsimp only[az] at h1 ⊢
          injection h1 with h1
          rw[h1]
         |ok r'=>
          rw[h4] at h1
          cases h1
       |ok z=>
        rw[h2] at h1
        cases h3:pseq p n r1 with
        |error e'=>
         rw[h3] at h1
         dsimp only[aB] at h1 ⊢
         cases h4:must [93] z.2 with
         |error e'=>
          rw[h4] at h1
          dsimp only[az] at h1 ⊢
          injection h1 with h1
          rw[h1]
         |ok r'=>
          rw[h4] at h1
          cases h1
        |ok y=>
         rw[h3] at h1
         dsimp only[aB] at h1 ⊢
         cases h4:must [93] z.2 with
         |error e4=>
          rw[h4] at h1
          cases h5:must [93] y.2 with
          |error e5=>
           rw[h5] at h1
           dsimp only[az] at h1 ⊢
           injection h1 with h1
           rw[h1]
          |ok r5=>
           rw[h5] at h1
           cases h1
         |ok r4=>
          rw[h4] at h1
          cases h5:must [93] y.2 with
          |error e5=>
           rw[h5] at h1
           cases h1
          |ok r5=>
           rw[h5] at h1
           dsimp only[az] at h1 ⊢
           injection h1 with h1
           injection h1 with h6 h7
           rw[h6,h7]
     ·have hh93:(c::r).head?≠some 93:=fun hc=>h93 (by injection hc)
      have hh44:(c::r).head?≠some 44:=fun hc=>h44 (by injection hc)
      rw[if_neg hh93,if_neg hh44]
      have m1:must [44,32] (c::r)=.error (5,r.length+1):=by
       show(if c=44 then _ else _)=_
       rw[if_neg h44]
      have m2:must [93] (c::r)=.error (5,r.length+1):=by
       show(if c=93 then _ else _)=_
       rw[if_neg h93]
      rw[m1]
      show _=az (must [93] (c::r)) _
      rw[m2]
      rfl
end Go.Proofs.YtllbniljgcgbeaaGreatDoor
