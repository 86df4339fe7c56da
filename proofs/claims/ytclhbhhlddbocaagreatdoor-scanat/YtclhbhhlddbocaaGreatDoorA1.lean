import Derived.Test.YtclhbhhlddbocaaGreatDoorA11
import Derived.Test.YtclhbhhlddbocaaGreatDoorB04
import Derived.Maps.OwnOps
import Derived.Maps.OwnSet
import Derived.Test.YtclhbhhlddbocaaGreatDoorB01
import Derived.Laws.Rows
import Derived.Carry
set_option maxRecDepth 100000
set_option maxHeartbeats 1000000
namespace Go.Proofs.YtclhbhhlddbocaaGreatDoor
open Go.RowKit
namespace Sch
end Sch
end Go.Proofs.YtclhbhhlddbocaaGreatDoor
namespace Go.Proofs.YtclhbhhlddbocaaGreatDoor
structure Kn where
 cols:List Col
 place:Int
structure Wk where
 sch:Int → Option Kn
 number:Int
 since:Int
 frames:Int
 rows:Int
 ents:List Ent
 closed:Bool
namespace Sc
def new:Wk:=⟨fun _ => none,-1,0,0,0,[],false⟩
def schAt (s:Wk) (n:Int):List Col:=match s.sch n with
 | some k => k.cols
 | none => []
def placeAt (s:Wk) (n:Int):Int:=match s.sch n with
 | some k => k.place
 | none => 0
def follows (s:Wk) (f:Fr) (p:Int):Bool :=
 if f.kind = 1 then (if f.number = s.number then Sch.same f.cols (schAt s s.number) else decide (f.number = s.number + 1))
 else if f.kind = 2 then decide (f.number = s.number ∧ f.seq = s.frames ∧ f.first = s.rows)
 else Idx.same f.index ⟨p,s.frames,s.rows,s.ents⟩
def learn (s:Wk) (n:Int) (c:List Col) (p:Int):Wk:={ s with sch:=fun m => if m = n then some ⟨c.map Col.fix,p⟩ else s.sch m,number:=n,since:=0 }
def enter (s:Wk) (f:Fr) (p:Int):Wk:=if f.seq % 4 = 0 ∧ s.ents.length < 64 then { s with ents:=s.ents ++ [⟨p,f.first,placeAt s s.number⟩] } else s
def count (s:Wk) (f:Fr):Wk:={ s with frames:=s.frames + 1,rows:=s.rows + f.rows,since:=s.since + 1 }
def take (s:Wk) (f:Fr) (p:Int):Wk :=
 if f.kind = 1 then { learn s f.number f.cols p with closed:=false }
 else if f.kind = 2 then { count (enter s f p) f with closed:=false }
 else { s with closed:=true }
def may (s:Wk) (f:Fr) (p:Int):Bool:=Fr.within Fr.S p && decide (Fr.err f = 0) && follows s f p
def next (s:Wk) (f:Fr) (p:Int):Wk:=if may s f p = true then take s f p else s
structure Good (s:Wk):Prop where
 number:-1 ≤ s.number ∧ s.number < 2147483648
 since:0 ≤ s.since ∧ s.since ≤ s.frames
 frames:s.frames ≤ 70368744177664
 rows:0 ≤ s.rows ∧ s.rows ≤ 1099511627840
 ents:s.ents.length * 24 ≤ 140737488351232
 entsOk:∀ e ∈ s.ents,Fr.i64 e.at_ ∧ Fr.i64 e.row ∧ Fr.i64 e.sch
 known:∀ n k,s.sch n = some k → (0 ≤ n ∧ n ≤ s.number) ∧ Sch.err k.cols = 0 ∧ (∀ c ∈ k.cols,c.fix = c ∧ c.wf) ∧ (0 ≤ k.place ∧ k.place < 1099511627776)
 has:0 ≤ s.number → ∃ k,s.sch s.number = some k
theorem good_new:Good new:=⟨by decide,by decide,by decide,by decide,by decide,fun e he => (by cases he),fun n k h => (by cases h),fun h => (by simp [new] at h)⟩
theorem place_ok {s:Wk} (h:Good s) (n:Int):0 ≤ placeAt s n ∧ placeAt s n < 1099511627776:=by
 unfold placeAt
 split
 ·next k hk => exact (h.known n k hk).2.2.2
 ·omega
theorem i64_of {n:Int} (h:0 ≤ n ∧ n < 1099511627776):Fr.i64 n:=⟨by omega,by omega⟩
theorem fix_wf {s:List Col} (he:Sch.err s = 0) (hw:∀ c ∈ s,c.wf):Sch.err (s.map Col.fix) = 0 ∧ ∀ c ∈ s.map Col.fix,c.fix = c ∧ c.wf:=by
 have:=Sch.read_ok (Sch.read_put he hw)
 exact ⟨this.1,this.2.2⟩
theorem good_learn {s:Wk} (h:Good s) (n:Int) (c:List Col) (p:Int) (hn:0 ≤ n ∧ n < 2147483648) (hm:s.number ≤ n) (he:Sch.err c = 0) (hw:∀ x ∈ c,x.wf) (hp:0 ≤ p ∧ p < 1099511627776):Good (learn s n c p):=by
 refine ⟨⟨by show -1 ≤ n;omega,hn.2⟩,⟨Int.le_refl _,?_⟩,h.frames,h.rows,h.ents,h.entsOk,fun m k hk => ?_,fun _ => ⟨⟨c.map Col.fix,p⟩,by show (if n = n then _ else _) = _;rw [if_pos rfl]⟩⟩
 ·have:=h.since
  show 0 ≤ s.frames
  omega
 ·have hk':(if m = n then some ⟨c.map Col.fix,p⟩ else s.sch m) = some k:=hk
  by_cases hmn:m = n
  ·rw [if_pos hmn] at hk'
   injection hk' with hk'
   rw [← hk',hmn]
   obtain ⟨h1,h2⟩:=fix_wf he hw
   exact ⟨⟨hn.1,Int.le_refl _⟩,h1,h2,hp⟩
  ·rw [if_neg hmn] at hk'
   obtain ⟨h1,h2⟩:=h.known m k hk'
   exact ⟨⟨h1.1,Int.le_trans h1.2 hm⟩,h2⟩
theorem good_enter {s:Wk} (h:Good s) (f:Fr) (p:Int) (hp:0 ≤ p ∧ p < 1099511627776) (hf:0 ≤ f.first ∧ f.first < 1099511627776):Good (enter s f p):=by
 unfold enter
 split
 ·next hc =>
  refine ⟨h.number,h.since,h.frames,h.rows,?_,?_,h.known,h.has⟩
  ·simp only [List.length_append,List.length_singleton]
   omega
  ·intro e he
   rcases List.mem_append.1 he with he | he
   ·exact h.entsOk e he
   ·rw [List.mem_singleton] at he
    subst he
    exact ⟨i64_of hp,i64_of hf,i64_of (place_ok h s.number)⟩
 ·exact h
theorem enter_same (s:Wk) (f:Fr) (p:Int):(enter s f p).sch = s.sch ∧ (enter s f p).number = s.number ∧ (enter s f p).since = s.since ∧ (enter s f p).frames = s.frames ∧ (enter s f p).rows = s.rows ∧ (enter s f p).closed = s.closed:=by
 unfold enter
 split <;> exact ⟨rfl,rfl,rfl,rfl,rfl,rfl⟩
theorem good_count {s:Wk} (h:Good s) (f:Fr) (h1:s.frames < 1099511627776) (h2:s.rows < 1099511627776) (hr:1 ≤ f.rows ∧ f.rows ≤ 64):Good (count s f):=by
 have hs:=h.since
 have hr':=h.rows
 exact ⟨h.number,⟨by show 0 ≤ s.since + 1;omega,by show s.since + 1 ≤ s.frames + 1;omega⟩,by show s.frames + 1 ≤ _;omega,⟨by show 0 ≤ s.rows + f.rows;omega,by show s.rows + f.rows ≤ _;omega⟩,h.ents,h.entsOk,h.known,h.has⟩
theorem good_closed {s:Wk} (h:Good s) (c:Bool):Good { s with closed:=c }:=⟨h.number,h.since,h.frames,h.rows,h.ents,h.entsOk,h.known,h.has⟩
theorem err_parts {f:Fr} (h:Fr.err f = 0):(f.kind = 1 → (0 ≤ f.number ∧ f.number < 2147483648) ∧ Sch.err f.cols = 0) ∧ (f.kind = 2 → (0 ≤ f.number ∧ f.number < 2147483648) ∧ (0 ≤ f.seq ∧ f.seq < 1099511627776) ∧ (0 ≤ f.first ∧ f.first < 1099511627776) ∧ (1 ≤ f.rows ∧ f.rows ≤ 64)) ∧ (f.kind = 1 ∨ f.kind = 2 ∨ f.kind = 3):=by
 have h0:=(Fr.err_open h).1
 refine ⟨fun hk => ?_,fun hk => ?_,Fr.head_fields h0⟩
 ·unfold Fr.err0 at h0
  rw [if_pos hk] at h0
  split at h0
  ·omega
  ·next hn =>
   have:=Fr.within_iff.1 (by simpa using hn)
   exact ⟨this,h0⟩
 ·unfold Fr.err0 at h0
  rw [if_neg (by omega),if_pos hk] at h0
  split at h0
  ·omega
  ·next hn =>
   simp only [Bool.not_eq_false,Bool.and_eq_true,decide_eq_true_iff] at hn
   exact ⟨Fr.within_iff.1 hn.1.1.1,Fr.within_iff.1 hn.1.1.2,Fr.within_iff.1 hn.1.2,hn.2⟩
theorem may_parts {s:Wk} {f:Fr} {p:Int} (h:may s f p = true):(0 ≤ p ∧ p < 1099511627776) ∧ Fr.err f = 0 ∧ follows s f p = true:=by
 unfold may at h
 simp only [Bool.and_eq_true,decide_eq_true_iff] at h
 exact ⟨Fr.within_iff.1 h.1.1,h.1.2,h.2⟩
theorem follows_data {s:Wk} {f:Fr} {p:Int} (hk:f.kind = 2) (h:follows s f p = true):f.number = s.number ∧ f.seq = s.frames ∧ f.first = s.rows:=by
 unfold follows at h
 rw [if_neg (by omega),if_pos hk] at h
 exact of_decide_eq_true h
theorem follows_sch {s:Wk} {f:Fr} {p:Int} (hk:f.kind = 1) (h:follows s f p = true):s.number ≤ f.number:=by
 unfold follows at h
 rw [if_pos hk] at h
 split at h
 ·omega
 ·have:=of_decide_eq_true h
  omega
theorem good_take {s:Wk} (h:Good s) {f:Fr} {p:Int} (hw:f.wf) (hm:may s f p = true):Good (take s f p):=by
 obtain ⟨hp,he,hf⟩:=may_parts hm
 obtain ⟨e1,e2,-⟩:=err_parts he
 unfold take
 split
 ·next hk =>
  obtain ⟨a1,a2⟩:=e1 hk
  exact good_closed (good_learn h _ _ _ a1 (follows_sch hk hf) a2 hw.2.2.1 hp) false
 ·split
  ·next hk =>
   obtain ⟨a1,a2,a3,a4⟩:=e2 hk
   obtain ⟨b1,b2,b3⟩:=follows_data hk hf
   have hE:=good_enter h f p hp a3
   obtain ⟨c1,c2,c3,c4,c5,c6⟩:=enter_same s f p
   exact good_closed (good_count hE f (by rw [c4,← b2];omega) (by rw [c5,← b3];omega) a4) false
  ·exact good_closed h true
def runT (m:Nat) (t:List UInt8):Except Nat (List UInt8) :=
 if t.findIdx (· == 0) < t.length then (if t.findIdx (· == 0) = 0 then .error 4 else .ok (t.take (t.findIdx (· == 0))))
 else if m = 2202 then .error 2 else .error 142
def runOf (r:List UInt8):Except Nat (List UInt8):=if r.headD 0 ≠ 0 then .error 141 else runT r.length r.tail
theorem runOf_cons (c:UInt8) (t:List UInt8):runOf (c :: t) = if c ≠ 0 then .error 141 else runT (t.length + 1) t:=rfl
def reads (b:List UInt8) (p:Int):Nat:=if p < 0 ∨ (b.length:Int) ≤ p then 0 else ((b.drop p.toNat).take 2202).length
def at_ (b:List UInt8) (p:Int):Except Nat (Fr × Nat) :=
 if p < 0 ∨ (b.length:Int) < p then .error 7 else if p = (b.length:Int) then .error 140
 else match runOf ((b.drop p.toNat).take 2202) with
 | .error e => .error e
 | .ok r => match Fr.dec r with
  | .error e => .error e
  | .ok f => .ok (f,p.toNat + r.length + 2)
theorem findIdx_split:∀ (t:List UInt8),t.findIdx (· == 0) < t.length → ∃ r,t = t.take (t.findIdx (· == 0)) ++ 0 :: r
 | [],h => by simp at h
 | c :: t,h => by
  rw [List.findIdx_cons] at h ⊢
  by_cases hc:(c == 0) = true
  ·rw [hc]
   have:c = 0:=by simpa using hc
   exact ⟨t,by simp [this]⟩
  ·have hc':(c == 0) = false:=by simpa using hc
   rw [hc'] at h ⊢
   simp only [cond_false,List.length_cons] at h
   obtain ⟨r,hr⟩:=findIdx_split t (by omega)
   refine ⟨r,?_⟩
   simp only [cond_false,List.take_succ_cons,List.cons_append]
   rw [← hr]
theorem findIdx_pre:∀ (a r:List UInt8),(∀ c ∈ a,c ≠ 0) → (a ++ 0 :: r).findIdx (· == 0) = a.length
 | [],r,_ => by simp [List.findIdx_cons]
 | c :: a,r,h => by
  rw [List.cons_append,List.findIdx_cons]
  have hc:(c == 0) = false:=by simpa using h c (by simp)
  rw [hc,findIdx_pre a r (fun x hx => h x (by simp [hx]))]
  simp
theorem findIdx_before:∀ (t:List UInt8),∀ c ∈ t.take (t.findIdx (· == 0)),c ≠ 0
 | [],c,hc => by simp at hc
 | d :: t,c,hc => by
  rw [List.findIdx_cons] at hc
  by_cases hd:(d == 0) = true
  ·rw [hd] at hc
   simp at hc
  ·have hd':(d == 0) = false:=by simpa using hd
   rw [hd'] at hc
   simp only [cond_false,List.take_succ_cons,List.mem_cons] at hc
   rcases hc with rfl | hc
   ·simpa using hd
   ·exact findIdx_before t c hc
theorem runOf_ok {l r:List UInt8} (hl:l ≠ []) (h:runOf l = .ok r):∃ z,l = 0 :: (r ++ 0 :: z) ∧ r ≠ [] ∧ ∀ c ∈ r,c ≠ 0:=by
 obtain ⟨c,t,rfl⟩:∃ c t,l = c :: t:=by
  cases l with
  | nil => exact absurd rfl hl
  | cons c t => exact ⟨c,t,rfl⟩
 rw [runOf_cons] at h
 split at h
 ·cases h
 ·next hc =>
  have hc0:c = 0:=by simpa using hc
  subst hc0
  unfold runT at h
  split at h
  ·next hlt =>
   split at h
   ·cases h
   ·next h0 =>
    injection h with h
    obtain ⟨z,hz⟩:=findIdx_split t hlt
    rw [h] at hz
    refine ⟨z,by rw [← hz],fun hr => ?_,fun x hx => findIdx_before t x (by rw [h];exact hx)⟩
    rw [hr] at h
    have:=congrArg List.length h
    simp only [List.length_take,List.length_nil] at this
    omega
  ·split at h <;> cases h
theorem runOf_mk {r z:List UInt8} (hr:r ≠ []) (h:∀ c ∈ r,c ≠ 0):runOf (0 :: (r ++ 0 :: z)) = .ok r:=by
 have e:=findIdx_pre r z h
 have hl:0 < r.length:=List.length_pos_iff.2 hr
 rw [runOf_cons,if_neg (by simp)]
 unfold runT
 simp only [e]
 rw [if_pos (by simp),if_neg (by omega)]
 simp
theorem at_ok {b:List UInt8} {p:Int} {f:Fr} {n:Nat} (h:at_ b p = .ok (f,n)):0 ≤ p ∧ p < (b.length:Int) ∧ Fr.err f = 0 ∧ f.wf ∧ n = p.toNat + (Fr.run f).length + 2 ∧ n ≤ b.length ∧ (b.drop p.toNat).take ((Fr.run f).length + 2) = 0 :: (Fr.run f ++ [0]):=by
 unfold at_ at h
 split at h
 ·cases h
 ·next h1 =>
  split at h
  ·cases h
  ·next h2 =>
   split at h
   ·cases h
   ·next r hr =>
    split at h
    ·cases h
    ·next g hg =>
     injection h with h
     injection h with h3 h4
     subst h3
     obtain ⟨e1,e2,e3,e4,e5⟩:=Fr.dec_ok hg
     have hlen:p.toNat < b.length:=by omega
     have hne:(b.drop p.toNat).take 2202 ≠ []:=by
      intro hc
      have:=congrArg List.length hc
      simp only [List.length_take,List.length_drop,List.length_nil] at this
      omega
     obtain ⟨z,hz,-,-⟩:=runOf_ok hne hr
     have hl:=congrArg List.length hz
     simp only [List.length_take,List.length_drop,List.length_cons,List.length_append] at hl
     refine ⟨by omega,by omega,e1,e4,by rw [e2];omega,by omega,?_⟩
     have ht:=congrArg (List.take (r.length + 2)) hz
     rw [List.take_take,Nat.min_eq_left (by omega)] at ht
     rw [e2,ht,List.take_succ_cons,List.take_append,List.take_of_length_le (by omega)]
     simp
theorem at_take {b:List UInt8} {p:Int} {f:Fr} {n m:Nat} (h:at_ b p = .ok (f,n)) (hm:n ≤ m) (hb:m ≤ b.length):at_ (b.take m) p = .ok (f,n):=by
 obtain ⟨h1,h2,h3,h4,h5,h6,h7⟩:=at_ok h
 have h22:=(Fr.err_open h3).2
 have h6':=Fr.run_ge (f:=f)
 have hx:((b.take m).drop p.toNat).take 2202 = 0 :: (Fr.run f ++ 0 :: ((((b.take m).drop p.toNat).take 2202).drop ((Fr.run f).length + 2))):=by
  have e:=List.take_append_drop ((Fr.run f).length + 2) (((b.take m).drop p.toNat).take 2202)
  have e2:(((b.take m).drop p.toNat).take 2202).take ((Fr.run f).length + 2) = 0 :: (Fr.run f ++ [0]):=by
   rw [List.take_take,Nat.min_eq_left (by omega),List.drop_take,List.take_take,Nat.min_eq_left (by omega),h7]
  rw [e2] at e
  simpa using e.symm
 have hd:Fr.dec (Fr.run f) = .ok f:=by
  unfold at_ at h
  rw [if_neg (by omega),if_neg (by omega)] at h
  split at h
  ·cases h
  ·next r hr =>
   split at h
   ·cases h
   ·next g hg =>
    injection h with h
    injection h with h8 h9
    subst h8
    rw [(Fr.dec_ok hg).2.1]
    exact hg
 unfold at_
 have hl:(b.take m).length = m:=by rw [List.length_take];omega
 rw [hl,if_neg (by omega),if_neg (by omega),hx,runOf_mk (fun hc => by rw [hc] at h6';simp at h6') (Fr.run_nz f)]
 simp only [hd]
 rw [h5]
structure Pos where
 at_:Nat
 wk:Wk
 read:Nat
def begin_:Pos:=⟨0,new,0⟩
def step (b:List UInt8) (x:Pos):Except Nat Pos:=match Sc.at_ b x.at_ with
 | .error e => .error e
 | .ok (f,n) => if may x.wk f x.at_ = true then .ok ⟨n,take x.wk f x.at_,x.read + reads b x.at_⟩ else .error 143
def goes (b:List UInt8):Nat → Option Pos
 | 0 => some begin_
 | k + 1 => match goes b k with
  | none => none
  | some x => match step b x with
   | .error _ => none
   | .ok y => some y
theorem reads_le (b:List UInt8) (p:Int):reads b p ≤ 2202:=by
 unfold reads
 split
 ·omega
 ·simp;omega
theorem step_end {b:List UInt8} {x:Pos} (h:x.at_ = b.length):step b x = .error 140:=by
 unfold step at_
 rw [if_neg (by omega),if_pos (by omega)]
end Sc
end Go.Proofs.YtclhbhhlddbocaaGreatDoor
namespace Go.Proofs.YtclhbhhlddbocaaGreatDoor
open Go.RowKit Go.Maps
theorem lawI14:Keyed Tryz.prog 2:=int_keyed Tryz.underlying2
def zeroK:Value:=.agg #[.slice none 0 0,.int .i64 0]
theorem zeroKn (w:World):(zeroValue 139).run Tryz.prog w = .ok zeroK w:=by kernel_rfl
def heldE (v:Value):Option (DataW Value × List MemPlace):=some (.held v,[])
def keyI (n:Int):Lit:=.int .i64 n
theorem keyI_inj {a b:Int} (h:keyI a = keyI b):a = b:=by
 unfold keyI at h
 injection h
theorem keyI_of {n:Int} (h:Fr.i64 n):keyOf Tryz.prog 2 (.int .i64 n) = some (keyI n):=keyOf_int_mk Tryz.underlying2 (by
 show (decide _ && decide _) = true
 rw [Bool.and_eq_true]
 exact ⟨decide_eq_true h.1,decide_eq_true h.2⟩)
structure KMap (w:World) (M n:Nat) (g:Int → Option Value):Prop where
 out:∃ D:DataW Value,w.ownsMap Tryz.prog 2 heldE M n D ∧ ∀ m,Maps.has D (keyI m) = (g m).isSome ∧ D.atKey (keyI m) (.held zeroK) = .held ((g m).getD zeroK)
section
variable {w w':World} {M n:Nat} {g:Int → Option Value}
theorem kmap_made (w:World):KMap (w.alloc (.map #[] 0)) w.heap.size 0 (fun _ => none):=⟨.map [],World.ownsMap_made _ _ _ _,fun _ => ⟨rfl,rfl⟩⟩
theorem KMap.lt (h:KMap w M n g):M < w.heap.size:=by
 obtain ⟨D,h1,_⟩:=h.out
 exact h1.lt
theorem KMap.keep (h:KMap w M n g) (hb:w'.heap[M]? = w.heap[M]?):KMap w' M n g:=by
 obtain ⟨D,⟨es,clock,h1,h2⟩,h3⟩:=h.out
 exact ⟨D,⟨es,clock,hb.trans h1,h2⟩,h3⟩
theorem KMap.obj (h:KMap w M n g):∃ es clock,w.heap[M]? = some (.map es clock):=by
 obtain ⟨D,⟨es,clock,h1,h2⟩,h3⟩:=h.out
 exact ⟨es,clock,h1⟩
theorem KMap.look (h:KMap w M n g) {m:Int} (hm:Fr.i64 m):(Instr.lookup 111 (.map (some M)) (.int .i64 m) false).run Tryz.prog w = .ok ((g m).getD zeroK) w:=by
 obtain ⟨D,h1,h2⟩:=h.out
 obtain ⟨v,ps,hr,hv⟩:=h1.lookup lawI14 Tryz.underlying111 (zeroKn w) (zd:=.held zeroK) (zp:=[]) rfl (keyI_of hm)
 rw [(h2 m).2] at hv
 unfold heldE at hv
 injection hv with hv
 injection hv with hv _
 injection hv with hv
 rw [hr,hv]
theorem KMap.look_ok (h:KMap w M n g) {m:Int} (hm:Fr.i64 m):(Instr.lookup 111 (.map (some M)) (.int .i64 m) true).run Tryz.prog w = .ok (.tuple #[(g m).getD zeroK,.bool (g m).isSome]) w:=by
 obtain ⟨D,h1,h2⟩:=h.out
 obtain ⟨v,ps,hr,hv⟩:=h1.look_ok lawI14 Tryz.underlying111 (zeroKn w) (zd:=.held zeroK) (zp:=[]) rfl (keyI_of hm)
 rw [(h2 m).2] at hv
 unfold heldE at hv
 injection hv with hv
 injection hv with hv _
 injection hv with hv
 rw [hr,hv,(h2 m).1]
theorem KMap.put (h:KMap w M n g) {m:Int} (hm:Fr.i64 m) (hn:n < 1000000000) (v:Value):∃ w',(Instr.mapUpdate 111 (.map (some M)) (.int .i64 m) v).run Tryz.prog w = .ok () w' ∧ KMap w' M (n + 1) (fun k => if k = m then some v else g k) ∧ Aside (fun k => k = M) w w' ∧ w'.heap.size = w.heap.size:=by
 obtain ⟨D,h1,h2⟩:=h.out
 obtain ⟨w',hr,ho,hg⟩:=h1.store lawI14 Tryz.underlying111 (by unfold maxLen;omega) (keyI_of hm) (val:=v) (d:=.held v) (ps:=[]) rfl
 refine ⟨w',hr,⟨_,ho,fun k => ?_⟩,?_,?_⟩
 ·by_cases hk:k = m
  ·subst hk
   rw [if_pos rfl,has_put_same h1.isMap (by trivial),atKey_put_same h1.isMap (by trivial)]
   exact ⟨rfl,rfl⟩
  ·rw [if_neg hk,has_put_other (fun e => hk (keyI_inj e)),atKey_put_other (fun e => hk (keyI_inj e))]
   exact h2 k
 ·have hg2:=hg.grown
  exact ⟨hg2.os,hg2.tape,hg2.output,hg2.size,fun k hk hf => hg2.block k hk (fun hc => hf (by injection hc))⟩
 ·obtain ⟨es,clock,es',clock',_,e⟩:=hg
  rw [e]
  simp [Go.ChangeMaps.setBlock]
end
def wCells (M:Nat) (s:Wk) (v:Value):Array Value:=#[.map (some M),.int .i64 s.number,.int .i64 s.since,.int .i64 s.frames,.int .i64 s.rows,v,.bool s.closed]
def Calm (F:Nat → Prop) (w:World) (p:Option Addr) (s:List Col):Prop:=∀ w',Aside F w w' → Cols w' p s
section
variable {F F':Nat → Prop} {w w':World} {p:Option Addr} {s:List Col}
theorem Calm.here (h:Calm F w p s):Cols w p s:=h w (Aside.refl _ _)
theorem Calm.step (h:Calm F w p s) (ha:Aside F w w') (hF:∀ k,F' k → F k ∨ w.heap.size ≤ k):Calm F' w' p s:=fun w'' h2 => h w'' (ha.trans h2 fun i hi hf => (hF i hf).elim id (fun hc => absurd hi (Nat.not_lt_of_le hc)))
theorem calm_own {B:Nat} {n c:Nat} (h:SOwn w B #[.slice p n c] s) (hF:∀ k,F k → k < B ∨ w.heap.size ≤ k):Calm F w p s:=fun w' ha => by
 obtain ⟨v,us,Fs,h1,hb,hl⟩:=h.out
 simp only [Array.mk.injEq,List.cons.injEq,and_true] at h1
 subst h1
 have h2:=hb.aside ha (fun g hg hf => by have:=hb.lt g hg;have:=hF g hf;omega) (fun j hj k hk hf => by have:=hb.range j hj k hk;have:=hF k hf;omega)
 obtain ⟨p',c',e1,_,e2⟩:=h2.cols hl
 injection e1 with e3 _ _
 rw [e3]
 exact e2
end
def Sees (X:Nat → Prop) (w:World) (o:Option Kn) (r:Option Value):Prop:=match o with
 | none => r = none
 | some k => ∃ p c,r = some (.agg #[.slice p k.cols.length c,.int .i64 k.place]) ∧ k.cols.length * 120 ≤ 140737488351232 ∧ k.cols.length ≤ c ∧ Calm X w p k.cols
theorem Sees.step {F F':Nat → Prop} {w w':World} {o:Option Kn} {r:Option Value} (h:Sees F w o r) (ha:Aside F w w') (hF:∀ k,F' k → F k ∨ w.heap.size ≤ k):Sees F' w' o r:=by
 cases o with
 | none => exact h
 | some k =>
  obtain ⟨p,c,h1,h2,h3,h4⟩:=h
  exact ⟨p,c,h1,h2,h3,h4.step ha hF⟩
structure KWalk (w:World) (B a M n:Nat) (v:Value) (g:Int → Option Value) (s:Wk) (G:Nat → Prop):Prop where
 lies:w.heap[a]? = some (.cells (wCells M s v) 113)
 map:KMap w M n g
 ents:EOwn w B v s.ents
 base:B ≤ a ∧ B ≤ M
 good:Sc.Good s
 low:∀ k,G k → k < w.heap.size
 off:∀ k,G k → k ≠ a ∧ k ≠ M ∧ v.ownBlock ≠ some k
 sch:∀ m,Sees (fun i => (i = a ∨ i = M ∨ v.ownBlock = some i) ∨ G i) w (s.sch m) (g m)
section
variable {w w':World} {B a M n:Nat} {v:Value} {g:Int → Option Value} {s:Wk} {G:Nat → Prop}
theorem KWalk.lt (h:KWalk w B a M n v g s G):a < w.heap.size:=(Array.getElem?_eq_some_iff.1 h.lies).1
theorem KWalk.cell (h:KWalk w B a M n v g s G) (i:Nat):w.cell? ⟨a,i,none⟩ = (wCells M s v)[i]?:=by
 unfold World.cell?
 rw [h.lies]
 rfl
theorem KWalk.thawed (h:KWalk w B a M n v g s G) (i:Nat):w.frozen? ⟨a,i,none⟩ = false:=by simp [World.frozen?,h.lies]
theorem KWalk.aM (h:KWalk w B a M n v g s G):a ≠ M:=by
 intro hc
 obtain ⟨es,clock,h1⟩:=h.map.obj
 rw [← hc,h.lies] at h1
 cases h1
theorem eown_apart {k:Nat} {es:List Ent} (h:EOwn w B v es) {C:Array Value} {T:TypeId} (hg:w.heap[k]? = some (.cells C T)) (hT:T ≠ 102):v.ownBlock ≠ some k:=by
 intro hc
 rcases h.2 with ⟨h1,_⟩ | ⟨g',cap,cur,h1,_,h3,_⟩
 ·rw [h1] at hc;cases hc
 ·rw [h1] at hc
  simp only [Value.ownBlock,Option.some.injEq] at hc
  subst hc
  rw [h3] at hg
  injection hg with h4
  injection h4 with _ h5
  exact hT h5.symm
theorem KWalk.va (h:KWalk w B a M n v g s G):v.ownBlock ≠ some a:=eown_apart h.ents h.lies (by decide)
theorem KWalk.vM (h:KWalk w B a M n v g s G):v.ownBlock ≠ some M:=by
 intro hc
 obtain ⟨es,clock,h0⟩:=h.map.obj
 rcases h.ents.2 with ⟨h1,_⟩ | ⟨g',cap,cur,h1,_,h3,_⟩
 ·rw [h1] at hc;cases hc
 ·rw [h1] at hc
  simp only [Value.ownBlock,Option.some.injEq] at hc
  subst hc
  rw [h3] at h0
  cases h0
theorem KWalk.aside {G':Nat → Prop} (h:KWalk w B a M n v g s G) (ha:Aside G w w') (hG:∀ k,G' k → G k ∨ w.heap.size ≤ k) (hl:∀ k,G' k → k < w'.heap.size):KWalk w' B a M n v g s G':=by
 have hva:∀ k,v.ownBlock = some k → k < w.heap.size:=fun k hk => (h.ents.lt k hk).2
 refine ⟨?_,h.map.keep (ha.block M h.map.lt (fun hc => (h.off M hc).2.1 rfl)),h.ents.aside ha (fun k hk hc => (h.off k hc).2.2 hk),h.base,h.good,hl,fun k hk => ?_,fun m => ?_⟩
 ·rw [ha.block a h.lt (fun hc => (h.off a hc).1 rfl)]
  exact h.lies
 ·rcases hG k hk with h1 | h1
  ·exact h.off k h1
  ·have h2:=h.lt
   have h3:=h.map.lt
   exact ⟨by omega,by omega,fun hc => by have:=hva k hc;omega⟩
 ·refine (h.sch m).step (ha.mono fun i _ hi => .inr hi) fun k hk => ?_
  rcases hk with hk | hk
  ·exact .inl (.inl hk)
  ·rcases hG k hk with h1 | h1
   ·exact .inl (.inr h1)
   ·exact .inr h1
theorem KWalk.on (h:KWalk w B a M n v g s G) (hb:Below w.heap.size w w'):KWalk w' B a M n v g s G:=h.aside (aside_new hb G) (fun _ hk => .inl hk) (fun k hk => Nat.lt_of_lt_of_le (h.low k hk) hb.size)
theorem KWalk.known (h:KWalk w B a M n v g s G) {m:Int} {k:Kn} (hk:s.sch m = some k):∃ p c,g m = some (.agg #[.slice p k.cols.length c,.int .i64 k.place]) ∧ k.cols.length * 120 ≤ 140737488351232 ∧ k.cols.length ≤ c ∧ Cols w p k.cols:=by
 have:=h.sch m
 rw [hk] at this
 obtain ⟨p,c,h1,h2,h3,h4⟩:=this
 exact ⟨p,c,h1,h2,h3,h4.here⟩
theorem KWalk.unknown (h:KWalk w B a M n v g s G) {m:Int} (hk:s.sch m = none):g m = none:=by
 have:=h.sch m
 rw [hk] at this
 exact this
theorem w_set {s':Wk} {v':Value} (h:w.heap[a]? = some (.cells (wCells M s v) 113)) (i:Nat) (u:Value) (he:wCells M s' v' = (wCells M s v).setIfInBounds i u):(w.setCell ⟨a,i,none⟩ u).heap[a]? = some (.cells (wCells M s' v') 113):=by
 simp only [World.setCell,Array.getElem?_modify,h,if_true,Option.map_some]
 rw [if_neg (by simp),he]
theorem KWalk.put {s':Wk} (h:KWalk w B a M n v g s G) (i:Nat) (u:Value) (he:wCells M s' v = (wCells M s v).setIfInBounds i u) (hs:s'.sch = s.sch) (hes:s'.ents = s.ents) (hg:Sc.Good s'):KWalk (w.setCell ⟨a,i,none⟩ u) B a M n v g s' G:=by
 have ha:Aside (· = a) w (w.setCell ⟨a,i,none⟩ u):=(Aside.refl (· = a) w).setCell (p:=⟨a,i,none⟩) (.inl rfl) u
 refine ⟨w_set h.lies i u he,h.map.keep (ha.block M h.map.lt (fun hc => h.aM hc.symm)),?_,h.base,hg,fun k hk => Nat.lt_of_lt_of_le (h.low k hk) ha.size,h.off,fun m => ?_⟩
 ·rw [hes]
  exact h.ents.aside ha (fun k hk hc => h.va (by rw [hk,hc]))
 ·rw [hs]
  exact (h.sch m).step (ha.mono fun i _ hi => .inl (.inl hi)) fun k hk => .inl hk
end
def wOwn (a M:Nat) (v:Value) (i:Nat):Prop:=i = a ∨ i = M ∨ v.ownBlock = some i
structure WPost (w w':World) (B a M n:Nat) (v:Value) (s:Wk) (G:Nat → Prop):Prop where
 out:∃ v' g',KWalk w' B a M n v' g' s G ∧ Aside (wOwn a M v) w w' ∧ ∀ i,v'.ownBlock = some i → v.ownBlock = some i ∨ w.heap.size ≤ i
end Go.Proofs.YtclhbhhlddbocaaGreatDoor
namespace Go.Proofs.YtclhbhhlddbocaaGreatDoor
open Go.RowKit Go.Maps
section
variable {w:World} {B a M n:Nat} {v:Value} {g:Int → Option Value} {s:Wk} {G:Nat → Prop}
theorem kFrames (h:KWalk w B a M n v g s G):Calls Tryz.prog 39 #[.pointer (some ⟨a,0,none⟩)] w fun e w' => e = .returned (.int .i64 s.frames) ∧ w' = w:=by
 have c0:w.cell? ⟨a,3,none⟩ = some (.int .i64 s.frames):=h.cell 3
 clear h
 go_enter Tryz.func39,Tryz.ntmps39
 go_wp2
 go_ret
 exact ⟨rfl,rfl⟩
theorem kRows (h:KWalk w B a M n v g s G):Calls Tryz.prog 40 #[.pointer (some ⟨a,0,none⟩)] w fun e w' => e = .returned (.int .i64 s.rows) ∧ w' = w:=by
 have c0:w.cell? ⟨a,4,none⟩ = some (.int .i64 s.rows):=h.cell 4
 clear h
 go_enter Tryz.func40,Tryz.ntmps40
 go_wp2
 go_ret
 exact ⟨rfl,rfl⟩
theorem kNumber (h:KWalk w B a M n v g s G):Calls Tryz.prog 41 #[.pointer (some ⟨a,0,none⟩)] w fun e w' => e = .returned (.int .i64 s.number) ∧ w' = w:=by
 have c0:w.cell? ⟨a,1,none⟩ = some (.int .i64 s.number):=h.cell 1
 clear h
 go_enter Tryz.func41,Tryz.ntmps41
 go_wp2
 go_ret
 exact ⟨rfl,rfl⟩
theorem kSince (h:KWalk w B a M n v g s G):Calls Tryz.prog 42 #[.pointer (some ⟨a,0,none⟩)] w fun e w' => e = .returned (.int .i64 s.since) ∧ w' = w:=by
 have c0:w.cell? ⟨a,2,none⟩ = some (.int .i64 s.since):=h.cell 2
 clear h
 go_enter Tryz.func42,Tryz.ntmps42
 go_wp2
 go_ret
 exact ⟨rfl,rfl⟩
end
theorem kNew14 (w:World) (G:Nat → Prop) (hG:∀ k,G k → k < w.heap.size):Calls Tryz.prog 28 #[] w fun e w' => e = .returned (.pointer (some ⟨w.heap.size + 1,0,none⟩)) ∧ KWalk w' w.heap.size (w.heap.size + 1) w.heap.size 0 (.slice none 0 0) (fun _ => none) Sc.new G ∧ Below w.heap.size w w' ∧ w'.heap.size = w.heap.size + 2:=by
 obtain ⟨W,hW⟩:∃ W,W = (w.alloc (.map #[] 0)).alloc (.cells (wCells w.heap.size Sc.new (.slice none 0 0)) 113):=⟨_,rfl⟩
 have hs:W.heap.size = w.heap.size + 2:=by rw [hW];simp
 have hb:Below w.heap.size w W:=by rw [hW];exact ((Below.refl _ _).alloc (Nat.le_refl _) _).alloc (by simp) _
 have hl:W.heap[w.heap.size + 1]? = some (.cells (wCells w.heap.size Sc.new (.slice none 0 0)) 113):=by
  rw [hW]
  have:=blk_new (w.alloc (.map #[] 0)) (.cells (wCells w.heap.size Sc.new (.slice none 0 0)) 113)
  simpa using this
 have hm:KMap W w.heap.size 0 (fun _ => none):=(kmap_made w).keep (by rw [hW];exact blk_old _ _ (by simp))
 have HW:Hid (KWalk W w.heap.size (w.heap.size + 1) w.heap.size 0 (.slice none 0 0) (fun _ => none) Sc.new G) :=
  ⟨hl,hm,eown_nil W _,⟨Nat.le_succ _,Nat.le_refl _⟩,Sc.good_new,fun k hk => by have:=hG k hk;omega,fun k hk => ⟨by have:=hG k hk;omega,by have:=hG k hk;omega,by simp [Value.ownBlock]⟩,fun m => rfl⟩
 have HB:=Lib.hid hb
 have HS:=Lib.hid hs
 have HW2:=Lib.hid hW
 have hmm:=@run_makeMap Tryz.prog
 clear hs hb hl hm hW
 go_enter Tryz.func28,Tryz.ntmps28
 go_wp2
 go_ret
 refine ⟨?_,?_⟩
 ·simp
 ·have e:W = (w.alloc (.map #[] 0)).alloc (.cells #[.map (some w.heap.size),.int .i64 (-1),.int .i64 0,.int .i64 0,.int .i64 0,.slice none 0 0,.bool false] 113):=HW2.out
  rw [← e]
  exact ⟨HW.out,HB.out,HS.out⟩
theorem nilE_none (n c:Nat) (w:World):(binOp .eql 26 (.slice none n c) (.slice none 0 0)).run Tryz.prog w = .ok (.bool true) w:=by kernel_rfl
theorem nilE_some (a:Addr) (n c:Nat) (w:World):(binOp .eql 26 (.slice (some a) n c) (.slice none 0 0)).run Tryz.prog w = .ok (.bool false) w:=by kernel_rfl
theorem onto_ents (B:Nat) (v:Value) (xs l:List Ent) (p:Option Addr) (c:Nat) (w:World) (hown:EOwn w B v xs) (h:Ents w p l) (hlen:(xs.length + l.length) * 24 ≤ 140737488355328) (hB:B ≤ w.heap.size) :
  ∃ (q:Option Addr) (cap:Nat) (W:World),AppRun Tryz.prog 26 26 26 v (.slice p l.length c) w (.slice q (xs ++ l).length cap) W ∧ EOwn W B (.slice q (xs ++ l).length cap) (xs ++ l) ∧ Aside (fun k => v.ownBlock = some k) w W ∧ (xs ++ l).length ≤ cap ∧ ∀ k,(Value.slice q (xs ++ l).length cap).ownBlock = some k → v.ownBlock = some k ∨ w.heap.size ≤ k:=by
 obtain ⟨i,hi,hz,hsz,hby⟩:=info_parts infoE
 by_cases h0:l = []
 ·subst h0
  obtain ⟨q,cap,rfl,hcap,-,-⟩:=hown.ents
  rw [List.append_nil]
  refine ⟨q,cap,w,⟨run_append_nothing (P:=Tryz.prog) w 26 26 26 102 i Tryz.underlying26 hi q xs.length cap hcap (.slice p 0 c) ?_⟩,hown,Aside.refl _ _,hcap,fun k hk => .inl hk⟩
  cases p with
  | none => exact Src.ofNil w Tryz.underlying26 c
  | some a => exact Src.ofSlice w Tryz.underlying26 a 0 c [] (by simp) (fun j u hj => by simp at hj) (fun u hu => by cases hu)
 ·have hpos:0 < l.length:=List.length_pos_iff.2 h0
  obtain ⟨b,o,rfl,hbl,-⟩:=h 0 hpos
  have hcell:∀ j u,(entCells l)[j]? = some u → w.cell? (Addr.add ⟨b,o,none⟩ j) = some u:=fun j u hj => by
   have hj2:j < l.length * 3:=by
    have:=(List.getElem?_eq_some_iff.1 hj).1
    rw [entCells_len] at this
    exact this
   have hd:j = j / 3 * 3 + j % 3:=by omega
   have hq:j / 3 < l.length:=by omega
   obtain ⟨b',o',he,-,k0,k1,k2⟩:=h (j / 3) hq
   simp only [Option.some.injEq,Addr.mk.injEq,and_true] at he
   obtain ⟨rfl,rfl⟩:=he
   rw [hd,entCells_get l (j / 3) hq (j % 3) (by omega)] at hj
   rw [Lib.add_plain,hd]
   have h3:j % 3 = 0 ∨ j % 3 = 1 ∨ j % 3 = 2:=by omega
   rcases h3 with h3 | h3 | h3 <;> rw [h3] at hj ⊢ <;> simp only [entC,List.getElem?_cons_zero,List.getElem?_cons_succ,Option.some.injEq] at hj <;> subst hj
   ·exact k0
   ·rw [← Nat.add_assoc];exact k1
   ·rw [← Nat.add_assoc];exact k2
  have hone:∀ u ∈ entCells l,u.oneCell' = true:=fun u hu => by
   unfold entCells at hu
   obtain ⟨x,hx,hu⟩:=List.mem_flatten.1 hu
   obtain ⟨e,_,rfl⟩:=List.mem_map.1 hx
   unfold entC at hu
   simp only [List.mem_cons,List.not_mem_nil,or_false] at hu
   rcases hu with rfl | rfl | rfl <;> rfl
  obtain ⟨g,cap,W,hr,hm,hgr,hgb,_⟩:=run_append_lies (P:=Tryz.prog) w 26 26 B 102 i zeroE 3 24 Tryz.underlying26 hi hz hsz hby rfl (by decide) v xs.length (entCells xs) hown ⟨b,o,none⟩ l.length c (entCells l) (entCells_len l) hcell hone hpos (by unfold maxLen;omega) (by omega) hB w.heap.size rfl
  rw [← entCells_append,← List.length_append] at hm
  rw [← List.length_append] at hr
  have hH:EOwn W B (.slice (some ⟨g,0,none⟩) (xs ++ l).length cap) (xs ++ l):=hm
  refine ⟨some ⟨g,0,none⟩,cap,W,⟨hr⟩,hH,aside_grew hgr,?_,?_⟩
  ·obtain ⟨q',cap',he,h2,-⟩:=hH.ents
   injection he with _ _ e2
   omega
  ·intro k hk
   simp only [Value.ownBlock,Option.some.injEq] at hk
   subst hk
   rcases hgb with h1 | h1
   ·exact .inl h1
   ·exact .inr (by omega)
theorem wp_ontoE {B:Nat} {v:Value} {xs l:List Ent} {p:Option Addr} {c:Nat} {w:World} (hown:EOwn w B v xs) (h:Ents w p l) (hlen:(xs.length + l.length) * 24 ≤ 140737488355328) (hB:B ≤ w.heap.size)
  {ops:Array Oper} {rest:List Oper} {o:Oper} {a:Act} {Q:Exit → Act → World → Prop} {y x:Operand}
  (ht:o.type = 26) (hg:o.guard = none) (hop:o.op = Op.call { callee:=Callee.builtin Builtin.append,args:=#[y,x],argTypes:=#[26,26] })
  (hs:a.eval y = v) (hx:a.eval x = .slice p l.length c)
  (hK:∀ ys q cap W,Hid (ys = xs ++ l) → EOwn W B (.slice q ys.length cap) ys → Aside (fun k => v.ownBlock = some k) w W → (∀ k,(Value.slice q ys.length cap).ownBlock = some k → v.ownBlock = some k ∨ w.heap.size ≤ k) → wpList Tryz.prog ops Q rest (a.put o.dst (.slice q ys.length cap)) W) :
  wpList Tryz.prog ops Q (o :: rest) a w:=by
 obtain ⟨q,cap,W,hr,hm,ha,-,hb⟩:=onto_ents B v xs l p c w hown h hlen hB
 have hr':AppRun Tryz.prog 26 26 o.type v (.slice p l.length c) w (.slice q (xs ++ l).length cap) W:=by rw [ht];exact hr
 exact wpList_append_ran hr' hg hop hs hx (hK _ q cap W (Lib.hid rfl) hm ha hb)
theorem eown_low14 {B:Nat} {v:Value} {xs:List Ent} {w W:World} (ha:Aside (fun k => v.ownBlock = some k) w W) (hown:EOwn w B v xs) (hB:B ≤ w.heap.size):Below B w W :=
 ha.below hB fun k hk hc => by have:=(hown.lt k hc).1;omega
theorem eown_empty (w:World):EOwn (w.alloc (.cells #[] 102)) w.heap.size (.slice (some ⟨w.heap.size,0,none⟩) 0 0) [] :=
 ⟨rfl,.inr ⟨w.heap.size,0,#[],rfl,Nat.le_refl _,blk_new w _,Nat.le_refl _,by decide,rfl,rfl⟩⟩
theorem cloneEK (p:Option Addr) (c:Nat) (l:List Ent) (hl:l.length * 24 ≤ 140737488351232) (w:World) (h:Ents w p l):Calls Tryz.prog 91 #[.slice p l.length c] w fun e w' => ∃ q cap,e = .returned (.slice q l.length cap) ∧ EOwn w' w.heap.size (.slice q l.length cap) l ∧ Below w.heap.size w w':=by
  cases p with
  | none =>
    have h0:l = []:=by
      cases l with
      | nil => rfl
      | cons x r =>
        obtain ⟨b,o,hp,-⟩:=h 0 (by simp)
        cases hp
    subst h0
    have hq:=nilE_none 0 c w
    go_enter Tryz.func91,Tryz.ntmps91
    go_wp2
    go_ret
    exact ⟨none,0,rfl,eown_nil _ _,Below.refl _ _⟩
  | some a =>
    have HA:=Lib.hid (h.on ((Below.refl _ w).alloc (Nat.le_refl _) (.cells #[] 102)))
    have HM:=Lib.hid (eown_empty w)
    have HB:Hid (Below w.heap.size w (w.alloc (.cells #[] 102))):=(Below.refl _ _).alloc (Nat.le_refl _) _
    have hq:=nilE_some a l.length c w
    clear h
    go_enter Tryz.func91,Tryz.ntmps91
    go_wp2_with (first
      | (at_builtin
         refine wp_ontoE (xs:=[]) HM.out HA.out (by simp;omega) (by simp) rfl rfl rfl rfl rfl ?_
         intro ys q cap W HY hh ha hk2
         have HB2:=Lib.hid (eown_low14 ha HM.out (by simp))
         have HYs:=Lib.hid hh
         clear ha hk2 hh)
      | fail)
    go_ret
    have e:ys = l:=HY.out
    rw [e] at HYs
    rw [e]
    exact ⟨q,cap,rfl,HYs.out,HB.out.trans HB2.out⟩
theorem kEntries {w:World} {B a M n:Nat} {v:Value} {g:Int → Option Value} {s:Wk} {G:Nat → Prop} (h:KWalk w B a M n v g s G):Calls Tryz.prog 45 #[.pointer (some ⟨a,0,none⟩)] w fun e w' => ∃ q cap,e = .returned (.slice q s.ents.length cap) ∧ EOwn w' w.heap.size (.slice q s.ents.length cap) s.ents ∧ Below w.heap.size w w':=by
 have c0:w.cell? ⟨a,5,none⟩ = some v:=h.cell 5
 obtain ⟨p,c,hv,-,he,-⟩:=h.ents.ents
 subst hv
 have HC:=Lib.hid (cloneEK p c s.ents h.good.ents w he)
 clear h he
 go_enter Tryz.func45,Tryz.ntmps45
 go_wp2_with fail
 refine HC.out.mono ?_
 rintro e w' ⟨q,cap,rfl,h1,h2⟩
 have H1:=Lib.hid h1
 have H2:=Lib.hid h2
 clear h1 h2
 go_wp2
 go_ret
 exact ⟨q,cap,rfl,H1.out,H2.out⟩
theorem largeK (b c:Nat) (l:List Int) (hl:l.length ≤ 100) (w:World) (h:∀ j (hj:j < l.length),w.cell? ⟨b,j,none⟩ = some (.int .i64 l[j])) :
  Calls Tryz.prog 71 #[.slice (some ⟨b,0,none⟩) l.length c] w fun e w' => e = .returned (.bool (l.all (Fr.within Fr.S))) ∧ w' = w:=by
 have H:=Lib.hid h
 obtain ⟨R,hR⟩:∃ R,R = l.all (Fr.within Fr.S):=⟨_,rfl⟩
 rw [← hR]
 have HR:=Lib.hid hR
 clear h hR
 go_enter Tryz.func71,Tryz.ntmps71
 go_wp2
 go_loop [7] (fun v7 => ∃ i:Nat,i ≤ l.length ∧ v7 = .int .i64 i ∧ Hid ((l.take i).all (Fr.within Fr.S) = true)) (fun v7 => l.length - (intOf v7).toNat)
 case atStart => exact ⟨0,by omega,rfl,rfl⟩
 case round =>
  obtain ⟨i,hi,rfl,HT⟩:=hrel
  by_cases hlt:i < l.length
  ·have hlt':(i:Int) < (l.length:Int):=by omega
   have hc:=H.out i hlt
   obtain ⟨x,hx⟩:∃ x,x = l[i]:=⟨_,rfl⟩
   rw [← hx] at hc
   by_cases hin:0 ≤ x ∧ x < 1099511627776
   ·have g0:decide (x < 0) = false:=decide_eq_false (by omega)
    have g1:decide ((1099511627776:Int) ≤ x) = false:=decide_eq_false (by omega)
    have HT2:Hid ((l.take (i + 1)).all (Fr.within Fr.S) = true):=by
     show _ = _
     rw [List.take_succ_eq_append_getElem hlt,List.all_append,HT.out,← hx]
     simp [Fr.within,Fr.S,hin]
    clear hin hx HT
    go_wp2
    go_round
    case rel => exact ⟨i + 1,by omega,by go_num,HT2⟩
    case measure => simp [intOf];omega
   ·have HF:Hid (R = false):=by
     show _ = _
     rw [HR.out,List.all_eq_false]
     have hf:Fr.within Fr.S x = false:=decide_eq_false hin
     exact ⟨x,by rw [hx];exact List.getElem_mem hlt,by rw [hf];decide⟩
    clear hx HT
    by_cases h0:x < 0
    ·have g0:decide (x < 0) = true:=decide_eq_true h0
     clear hin
     go_wp2
     go_ret
     exact ⟨by rw [HF.out];rfl,rfl⟩
    ·have g0:decide (x < 0) = false:=decide_eq_false h0
     have g1:decide ((1099511627776:Int) ≤ x) = true:=decide_eq_true (by omega)
     clear hin h0
     go_wp2
     go_ret
     exact ⟨by rw [HF.out];rfl,rfl⟩
  ·have hii:i = l.length:=by omega
   subst hii
   have HF:Hid (R = true):=by
    show _ = _
    have:=HT.out
    rw [List.take_length] at this
    rw [HR.out,this]
   clear HT hlt hi
   go_wp2
   go_ret
   exact ⟨by rw [HF.out];rfl,rfl⟩
end Go.Proofs.YtclhbhhlddbocaaGreatDoor
