import Derived.Test.YtfcblnknoljkhaaGreatDoorRows
import Derived.WalkKit
import Derived.WalkSpells
import Derived.WalkLawsBesides
import Derived.Deep.QuietTactic
import Derived.BigQuiet
import Derived.Lib.Hide
import Derived.Deep.AppendSrc
import Derived.Lib.ItoaMem
import Derived.Deep.DeepAppendWide
import Derived.Below
import Derived.Deep.Upon
import Derived.Deep.AppendLies
import Derived.Lib.AppendStr
import Derived.Laws.BytesArg
import Derived.Laws.Rows
set_option maxRecDepth 100000
set_option maxHeartbeats 4000000
namespace Go.Proofs.YtfcblnknoljkhaaGreatDoor
open Go.RowKit
def Cells (w:World) (b o:Nat) (l:List UInt8):Prop:=∀ j (h:j < l.length),w.cell? ⟨b,o + j,none⟩ = some (.int .u8 (l[j].toNat:Int))
def At (w:World) (p:Option Addr) (l:List UInt8):Prop:=l = [] ∨ ∃ b o,p = some ⟨b,o,none⟩ ∧ b < w.heap.size ∧ Cells w b o l
theorem At.on {w w':World} {p:Option Addr} {l:List UInt8} (h:At w p l) (hb:Below w.heap.size w w'):At w' p l:=by
 rcases h with rfl | ⟨b,o,rfl,h1,h2⟩
 ·exact .inl rfl
 ·refine .inr ⟨b,o,rfl,by have:=hb.size;omega,fun j hj => ?_⟩
  rw [hb.cell (p:=⟨b,o + j,none⟩) h1]
  exact h2 j hj
theorem At.drewN {w:World} {p:Option Addr} {l:List UInt8} (h:At w p l) (n:Nat):At (w.drewN n) p l:=by
 rcases h with rfl | ⟨b,o,rfl,h1,h2⟩
 ·exact .inl rfl
 ·exact .inr ⟨b,o,rfl,h1,h2⟩
theorem below_drewN {B:Nat} {a w:World} (h:Below B a w) (n:Nat):Below B a (w.drewN n):=⟨h.os,h.tape,h.output,h.size,h.block⟩
theorem same_len (p q:Option Addr) (n m c d:Nat) (hne:n ≠ m) (w:World) :
  Calls Tryz.prog 7 #[.slice p n c,.slice q m d] w fun e w' => e = .returned (.bool false) ∧ w' = w:=by
 have hb:((n:Int) != (m:Int)) = true:=by rw [bne_iff_ne];omega
 clear hne
 go_enter Tryz.func7,Tryz.ntmps7
 go_wp2
 go_ret
 exact ⟨rfl,rfl⟩
theorem same_none (p q:Option Addr) (c d:Nat) (w:World) :
  Calls Tryz.prog 7 #[.slice p 0 c,.slice q 0 d] w fun e w' => e = .returned (.bool true) ∧ w' = w:=by
 go_enter Tryz.func7,Tryz.ntmps7
 go_wp2
 go_loop [5] (fun vi => vi = .int .i64 0) (fun _ => 0)
 case atStart => exact rfl
 case round =>
  subst hrel
  go_wp2
  go_ret
  exact ⟨rfl,rfl⟩
theorem same_some (b1 o1 b2 o2 c d:Nat) (l k:List UInt8) (hl:l.length ≤ 200000000000000) (hk:k.length = l.length) (w:World) (h1:Cells w b1 o1 l) (h2:Cells w b2 o2 k) :
  Calls Tryz.prog 7 #[.slice (some ⟨b1,o1,none⟩) l.length c,.slice (some ⟨b2,o2,none⟩) l.length d] w fun e w' => e = .returned (.bool (l == k)) ∧ ∃ n,w' = w.drewN n:=by
 have H1:=Lib.hid h1
 have H2:=Lib.hid h2
 have HK:=Lib.hid hk
 clear h1 h2 hk
 go_enter Tryz.func7,Tryz.ntmps7
 go_wp2
 go_loopw [5] (fun vi wr => ∃ i n:Nat,i ≤ l.length ∧ vi = .int .i64 i ∧ wr = w.drewN n ∧ Hid (l.take i = k.take i)) (fun vi _ => l.length - (intOf vi).toNat)
 case atStart => exact ⟨0,0,by omega,rfl,rfl,rfl⟩
 case round =>
  obtain ⟨i,n,hi,rfl,rfl,HT⟩:=hrel
  by_cases hlt:i < l.length
  ·have hc1:=H1.out i hlt
   have hlt2:i < k.length:=by rw [HK.out];exact hlt
   have hc2:=H2.out i hlt2
   have hlt':(i:Int) < (l.length:Int):=by omega
   by_cases he:l[i] = k[i]
   ·have HT2:Hid (l.take (i + 1) = k.take (i + 1)):=by
     show _ = _
     rw [List.take_succ_eq_append_getElem hlt,List.take_succ_eq_append_getElem hlt2,HT.out,he]
    rw [← he] at hc2
    clear he HT
    go_wp2
    go_quiet (fail)
    go_wp2
    go_roundw
    case rel => exact ⟨i + 1,_,by omega,by go_num,rfl,HT2⟩
    case measure => simp [intOf];omega
   ·have hb:((l[i].toNat:Int) != (k[i].toNat:Int)) = true:=by
     rw [bne_iff_ne]
     intro hc
     exact he (UInt8.toNat_inj.1 (by omega))
    have HF:Hid ((l == k) = false):=by
     show _ = _
     rw [beq_eq_false_iff_ne]
     intro hc
     subst hc
     exact he rfl
    clear he HT
    go_wp2
    go_quiet (fail)
    go_wp2
    go_ret
    exact ⟨by rw [HF.out];rfl,_,World.drewN_drewN ..⟩
  ·have hii:i = l.length:=by omega
   subst hii
   have HF:Hid ((l == k) = true):=by
    show _ = _
    rw [beq_iff_eq]
    have:=HT.out
    rw [List.take_length,← HK.out,List.take_length] at this
    exact this
   clear HT
   go_wp2
   go_ret
   exact ⟨by rw [HF.out];rfl,n,rfl⟩
theorem same_any (p q:Option Addr) (c d:Nat) (l k:List UInt8) (hl:l.length ≤ 200000000000000) (w:World) (h1:At w p l) (h2:At w q k) :
  Calls Tryz.prog 7 #[.slice p l.length c,.slice q k.length d] w fun e w' => e = .returned (.bool (l == k)) ∧ ∃ n,w' = w.drewN n:=by
 by_cases hlen:l.length = k.length
 ·rcases h1 with rfl | ⟨b1,o1,rfl,_,hc1⟩
  ·have hk:k = []:=by
    cases k with
    | nil => rfl
    | cons _ _ => simp at hlen
   subst hk
   refine (same_none p q c d w).mono ?_
   rintro e w' ⟨rfl,rfl⟩
   exact ⟨rfl,0,rfl⟩
  ·rcases h2 with rfl | ⟨b2,o2,rfl,_,hc2⟩
   ·have hk:l = []:=by
     cases l with
     | nil => rfl
     | cons _ _ => simp at hlen
    subst hk
    refine (same_none _ q c d w).mono ?_
    rintro e w' ⟨rfl,rfl⟩
    exact ⟨rfl,0,rfl⟩
   ·rw [← hlen]
    exact same_some b1 o1 b2 o2 c d l k hl hlen.symm w hc1 hc2
 ·refine (same_len p q l.length k.length c d hlen w).mono ?_
  rintro e w' ⟨rfl,rfl⟩
  refine ⟨?_,0,rfl⟩
  rw [show (l == k) = false by rw [beq_eq_false_iff_ne];intro hc;rw [hc] at hlen;exact hlen rfl]
end Go.Proofs.YtfcblnknoljkhaaGreatDoor
namespace Go.Proofs.YtfcblnknoljkhaaGreatDoor
open Go.RowKit
def cellsOf (l:List UInt8):List Value:=l.map fun b => Value.int .u8 (b.toNat:Int)
theorem cellsOf_get (l:List UInt8) (j:Nat) (h:j < l.length):(cellsOf l)[j]? = some (.int .u8 (l[j].toNat:Int)):=by
 simp [cellsOf,h]
theorem src_bytes {w:World} {p:Option Addr} {l:List UInt8} (c:Nat) (h:At w p l):Src Tryz.prog 1 25 (.slice p l.length c) l.length (cellsOf l) w:=by
 have hone:∀ u ∈ cellsOf l,u.oneCell' = true:=fun u hu => by
  obtain ⟨_,_,rfl⟩:=List.mem_map.1 hu
  rfl
 cases p with
 | none =>
  rcases h with rfl | ⟨b,o,hp,_,_⟩
  ·exact Src.ofNil w Tryz.underlying25 c
  ·cases hp
 | some a =>
  refine Src.ofSlice w Tryz.underlying25 a l.length c (cellsOf l) (by simp [cellsOf]) (fun j u hj => ?_) hone
  rcases h with rfl | ⟨b,o,hp,_,hc⟩
  ·simp [cellsOf] at hj
  ·cases hp
   have hj2:j < l.length:=by
    have:=(List.getElem?_eq_some_iff.1 hj).1
    simpa [cellsOf] using this
   rw [cellsOf_get l j hj2] at hj
   cases hj
   have:=hc j hj2
   rw [Lib.add_plain]
   exact this
theorem info8:(Tryz.prog.info? 5).map (fun i => (i.zero,i.size,i.bytes)) = some (some (.int .u8 0),1,1):=by kernel_rfl
theorem new_cells (w:World) (l:List UInt8) (zs:Array Value) (T:TypeId):Cells (w.alloc (.cells ((cellsOf l).toArray ++ zs) T)) w.heap.size 0 l:=fun j hj => by
 rw [Nat.zero_add,World.cell?_alloc_new]
 have h1:j < (cellsOf l).toArray.size:=by simpa [cellsOf] using hj
 rw [Array.getElem?_append_left h1]
 have:=cellsOf_get l j hj
 simpa using this
def Own (w:World) (b:Nat) (l:List UInt8):Prop:=∃ zs,w.heap[b]? = some (.cells ((cellsOf l).toArray ++ zs) 5)
theorem Own.lt {w:World} {b:Nat} {l:List UInt8} (h:Own w b l):b < w.heap.size:=by
 obtain ⟨zs,h⟩:=h
 exact (Array.getElem?_eq_some_iff.1 h).1
theorem Own.cells {w:World} {b:Nat} {l:List UInt8} (h:Own w b l):Cells w b 0 l:=fun j hj => by
 obtain ⟨zs,h⟩:=h
 rw [Nat.zero_add]
 have h1:j < (cellsOf l).toArray.size:=by simpa [cellsOf] using hj
 have h2:=cellsOf_get l j hj
 unfold World.cell?
 rw [h]
 show ((cellsOf l).toArray ++ zs)[j]? = _
 rw [Array.getElem?_append_left h1]
 simpa using h2
theorem Own.at {w:World} {b:Nat} {l:List UInt8} (h:Own w b l):At w (some ⟨b,0,none⟩) l:=.inr ⟨b,0,rfl,h.lt,h.cells⟩
theorem Own.thawed {w:World} {b:Nat} {l:List UInt8} (h:Own w b l) (j:Nat):w.frozen? ⟨b,j,none⟩ = false:=by
 obtain ⟨zs,h⟩:=h
 simp [World.frozen?,h]
theorem Own.set {w:World} {b:Nat} {l:List UInt8} (h:Own w b l) (i:Nat) (v:UInt8) (hi:i < l.length):Own (w.setCell ⟨b,i,none⟩ (.int .u8 (v.toNat:Int))) b (l.set i v):=by
 obtain ⟨zs,h⟩:=h
 refine ⟨zs,?_⟩
 have h1:i < (cellsOf l).toArray.size:=by simpa [cellsOf] using hi
 have e:(cellsOf (l.set i v)).toArray = (cellsOf l).toArray.set! i (.int .u8 (v.toNat:Int)):=by
  simp [cellsOf,List.map_set]
 rw [e]
 have hb:=(Array.getElem?_eq_some_iff.1 h).1
 simp only [World.setCell,Array.getElem?_modify,h,if_true,Option.map_some]
 rw [if_neg (by simp),Array.set!_eq_setIfInBounds,Array.setIfInBounds_append_left h1]
theorem heap_new (w:World) (o:Obj):(w.alloc o).heap[w.heap.size]? = some o:=by
 show (w.heap.push o)[w.heap.size]? = _
 simp
theorem wpList_append_run {P:Program} (w:World) {ops:Array Oper} {rest:List Oper} {o:Oper} {a:Act} {Q:Exit → Act → World → Prop}
  (hg:o.guard = none) (s x:Operand) (t tx:TypeId) (hop:o.op = Op.call { callee:=Callee.builtin Builtin.append,args:=#[s,x],argTypes:=#[t,tx] })
  (vs vx:Value) (hs:a.eval s = vs) (hx:a.eval x = vx) (v':Value) (w':World) (hrun:(Builtin.append_ #[t,tx] o.type #[vs,vx]).run P w = .ok v' w')
  (hK:wpList P ops Q rest (a.put o.dst v') w'):wpList P ops Q (o :: rest) a w:=by
 refine wpList_plain hg fun K hK' => ?_
 unfold Oper.wp
 simp [execOp,hop,resolve,invoke,builtin,hs,hx,hrun,Result.andThen]
 exact hK' _ _ hK
structure AppRun (P:Program) (t tx ty:TypeId) (vs vx:Value) (w:World) (v':Value) (w':World):Prop where
 run:(Builtin.append_ #[t,tx] ty #[vs,vx]).run P w = .ok v' w'
theorem wpList_append_ran {P:Program} {w:World} {ops:Array Oper} {rest:List Oper} {o:Oper} {a:Act} {Q:Exit → Act → World → Prop} {s x:Operand} {t tx:TypeId} {vs vx v':Value} {w':World}
  (h:AppRun P t tx o.type vs vx w v' w') (hg:o.guard = none) (hop:o.op = Op.call { callee:=Callee.builtin Builtin.append,args:=#[s,x],argTypes:=#[t,tx] })
  (hs:a.eval s = vs) (hx:a.eval x = vx) (hK:wpList P ops Q rest (a.put o.dst v') w'):wpList P ops Q (o :: rest) a w :=
 wpList_append_run w hg s x t tx hop vs vx hs hx v' w' h.run hK
end Go.Proofs.YtfcblnknoljkhaaGreatDoor
namespace Go.Proofs.YtfcblnknoljkhaaGreatDoor
open Go.RowKit
def Mine (w:World) (B g cap:Nat) (l:List UInt8):Prop:=w.ownsRow B 5 1 (.slice (some ⟨g,0,none⟩) l.length cap) l.length (cellsOf l)
theorem Mine.at {w:World} {B g cap:Nat} {l:List UInt8} (h:Mine w B g cap l):At w (some ⟨g,0,none⟩) l:=by
 refine .inr ⟨g,0,rfl,(World.ownsRow.lt h g rfl).2,fun j hj => ?_⟩
 have:=World.ownsRow.cells h (g:=g) rfl j _ (cellsOf_get l j hj)
 rw [Lib.add_plain] at this
 exact this
theorem mine_new (w:World):Mine (w.alloc (.cells #[] 5)) w.heap.size w.heap.size 0 []:=by
 refine ⟨rfl,.inr ⟨w.heap.size,0,#[],rfl,Nat.le_refl _,heap_new w _,Nat.le_refl _,by simp [maxLen],rfl,rfl⟩⟩
theorem cellsOf_append (a b:List UInt8):cellsOf (a ++ b) = cellsOf a ++ cellsOf b:=by simp [cellsOf]
theorem cellsOf_length (a:List UInt8):(cellsOf a).length = a.length:=by simp [cellsOf]
end Go.Proofs.YtfcblnknoljkhaaGreatDoor
namespace Go.Proofs.YtfcblnknoljkhaaGreatDoor
open Go.RowKit
def Free (w:World) (g o:Nat) (l:List UInt8):Prop:=g < w.heap.size ∧ Cells w g o l ∧ ∀ j,j < l.length → w.frozen? ⟨g,o + j,none⟩ = false
theorem Free.at {w:World} {g o:Nat} {l:List UInt8} (h:Free w g o l):At w (some ⟨g,o,none⟩) l:=.inr ⟨g,o,rfl,h.1,h.2.1⟩
theorem Free.set {w:World} {g o:Nat} {l:List UInt8} (h:Free w g o l) (i:Nat) (v:UInt8) (hi:i < l.length):Free (w.setCell ⟨g,o + i,none⟩ (.int .u8 (v.toNat:Int))) g o (l.set i v):=by
 obtain ⟨h1,h2,h3⟩:=h
 refine ⟨by simpa [World.setCell] using h1,fun j hj => ?_,fun j hj => ?_⟩
 ·rw [List.length_set] at hj
  by_cases e:i = j
  ·subst e
   rw [World.cell?_setCell_same (h:=h2 i hi),List.getElem_set_self]
  ·rw [World.cell?_setCell_other (h:=by intro hc;injection hc;omega),h2 j hj,List.getElem_set_ne e]
 ·rw [List.length_set] at hj
  rw [World.frozen?_setCell]
  exact h3 j hj
theorem Free.on {w w':World} {B g o:Nat} {l:List UInt8} (h:Free w g o l) (hg:g < B) (hb:Below B w w'):Free w' g o l:=by
 obtain ⟨h1,h2,h3⟩:=h
 refine ⟨by have:=hb.size;omega,fun j hj => ?_,fun j hj => ?_⟩
 ·rw [hb.cell (p:=⟨g,o + j,none⟩) hg];exact h2 j hj
 ·rw [hb.frozen (p:=⟨g,o + j,none⟩) hg];exact h3 j hj
theorem Own.free {w:World} {b:Nat} {l:List UInt8} (h:Own w b l):Free w b 0 l:=⟨h.lt,h.cells,fun j _ => by rw [Nat.zero_add];exact h.thawed j⟩
theorem Mine.free {w:World} {B g cap:Nat} {l:List UInt8} (h:Mine w B g cap l):Free w g 0 l:=by
 refine ⟨(World.ownsRow.lt h g rfl).2,fun j hj => ?_,fun j _ => ?_⟩
 ·have:=World.ownsRow.cells h (g:=g) rfl j _ (cellsOf_get l j hj)
  rw [Lib.add_plain] at this
  exact this
 ·rcases h.2 with ⟨h1,_⟩ | ⟨g',cap',cur,h1,_,h2,_⟩
  ·cases h1
  ·cases h1
   simp [World.frozen?,h2]
theorem Mine.base {w:World} {B g cap:Nat} {l:List UInt8} (h:Mine w B g cap l):B ≤ g ∧ g < w.heap.size ∧ l.length ≤ cap:=by
 refine ⟨(World.ownsRow.lt h g rfl).1,(World.ownsRow.lt h g rfl).2,?_⟩
 rcases h.2 with ⟨h1,_⟩ | ⟨g',cap',cur,h1,_,_,h2,_⟩
 ·cases h1
 ·cases h1;exact h2
theorem cells_drop {w:World} {b o:Nat} {l:List UInt8} (h:Cells w b o l) (n:Nat):Cells w b (o + n) (l.drop n):=fun j hj => by
 have hj':n + j < l.length:=by rw [List.length_drop] at hj;omega
 have:=h (n + j) hj'
 rw [← Nat.add_assoc] at this
 rw [this,List.getElem_drop]
theorem cells_take {w:World} {b o:Nat} {l:List UInt8} (h:Cells w b o l) (n:Nat):Cells w b o (l.take n):=fun j hj => by
 have hj':j < l.length:=by rw [List.length_take] at hj;omega
 rw [h j hj',List.getElem_take]
theorem at_some {w:World} {p:Option Addr} {l:List UInt8} (h:At w p l) (hp:0 < l.length):∃ b o,p = some ⟨b,o,none⟩ ∧ b < w.heap.size ∧ Cells w b o l:=by
 rcases h with rfl | h
 ·simp at hp
 ·exact h
end Go.Proofs.YtfcblnknoljkhaaGreatDoor
namespace Go.Proofs.YtfcblnknoljkhaaGreatDoor
open Go.RowKit
def Has (w:World) (B:Nat) (v:Value) (l:List UInt8):Prop:=w.ownsRow B 5 1 v l.length (cellsOf l)
theorem has_nil (w:World) (B:Nat):Has w B (.slice none 0 0) []:=⟨rfl,.inl ⟨rfl,rfl⟩⟩
theorem Mine.has {w:World} {B g cap:Nat} {l:List UInt8} (h:Mine w B g cap l):Has w B (.slice (some ⟨g,0,none⟩) l.length cap) l:=h
theorem Has.form {w:World} {B:Nat} {v:Value} {l:List UInt8} (h:Has w B v l):(v = .slice none 0 0 ∧ l = []) ∨ ∃ g cap,v = .slice (some ⟨g,0,none⟩) l.length cap ∧ Mine w B g cap l:=by
 rcases h.2 with ⟨h1,h2⟩ | ⟨g,cap,cur,rfl,h3⟩
 ·exact .inl ⟨h1,List.eq_nil_of_length_eq_zero h2⟩
 ·exact .inr ⟨g,cap,rfl,h.1,.inr ⟨g,cap,cur,rfl,h3⟩⟩
theorem Has.at {w:World} {B:Nat} {v:Value} {l:List UInt8} (h:Has w B v l):∃ p cap,v = .slice p l.length cap ∧ At w p l ∧ l.length ≤ cap:=by
 rcases h.form with ⟨rfl,rfl⟩ | ⟨g,cap,rfl,hm⟩
 ·exact ⟨none,0,rfl,.inl rfl,Nat.le_refl _⟩
 ·exact ⟨_,cap,rfl,hm.at,hm.base.2.2⟩
theorem Has.drew {w:World} {B:Nat} {v:Value} {l:List UInt8} (h:Has w B v l):Has w.drew B v l:=h
theorem Has.drewN {w:World} {B:Nat} {v:Value} {l:List UInt8} (h:Has w B v l) (n:Nat):Has (w.drewN n) B v l:=h
theorem Has.alloc {w:World} {B:Nat} {v:Value} {l:List UInt8} (h:Has w B v l) (o:Obj):Has (w.alloc o) B v l:=World.ownsRow.alloc h o
theorem onto_has (B:Nat) (v:Value) (xs l:List UInt8) (a:Addr) (c:Nat) (w:World) (hown:Has w B v xs) (h:At w (some a) l) (h0:l ≠ []) (hlen:xs.length + l.length ≤ 200000000000000) (hB:B ≤ w.heap.size) :
  ∃ (g' cap':Nat) (W:World),AppRun Tryz.prog 25 25 25 v (.slice (some a) l.length c) w (.slice (some ⟨g',0,none⟩) (xs ++ l).length cap') W ∧ Mine W B g' cap' (xs ++ l) ∧ Below B w W:=by
 obtain ⟨i,hi,hz,hsz,hby⟩:=info_parts info8
 have hcells:∀ j u,(cellsOf l)[j]? = some u → w.cell? (a.add j) = some u:=fun j u hj => by
  have hj2:j < l.length:=by
   have:=(List.getElem?_eq_some_iff.1 hj).1
   simpa [cellsOf] using this
  rcases h with rfl | ⟨b,o,hp,_,hc⟩
  ·simp at hj2
  ·cases hp
   rw [cellsOf_get l j hj2] at hj
   cases hj
   rw [Lib.add_plain]
   exact hc j hj2
 obtain ⟨v',W,hr,hown',hgr,hnil⟩:=run_append_own_wide (P:=Tryz.prog) w B 25 25 5 i (.int .u8 0) 1 1 Tryz.underlying25 hi hz hsz hby rfl (by decide) v xs.length (cellsOf xs) hown a l.length c (cellsOf l) (by rw [cellsOf_length,Nat.mul_one]) hcells
  (fun u hu => by obtain ⟨_,_,rfl⟩:=List.mem_map.1 hu;rfl) (by unfold maxLen;omega) (by omega) hB
 rw [← cellsOf_append,← List.length_append] at hown'
 have hform:∃ g' cap',v' = .slice (some ⟨g',0,none⟩) (xs ++ l).length cap':=by
  rcases hown'.2 with ⟨h1,_⟩ | ⟨g',cap',_,h1,_⟩
  ·have:=(hnil.1 h1).2
   exact absurd (List.eq_nil_of_length_eq_zero this) h0
  ·exact ⟨g',cap',h1⟩
 obtain ⟨g',cap',rfl⟩:=hform
 exact ⟨g',cap',W,⟨hr⟩,hown',(Below.refl _ _).grown hgr hB (fun k hk => (World.ownsRow.lt hown k hk).1)⟩
theorem wp_push {B:Nat} {v:Value} {xs:List UInt8} {w:World} (hown:Has w B v xs) (c:UInt8) (hlen:xs.length + 1 ≤ 200000000000000) (hB:B ≤ w.heap.size)
  {z:Int} {ops:Array Oper} {rest:List Oper} {o:Oper} {a:Act} {Q:Exit → Act → World → Prop} {s x:Operand}
  (hz:z = (c.toNat:Int)) (ht:o.type = 25) (hg:o.guard = none) (hop:o.op = Op.call { callee:=Callee.builtin Builtin.append,args:=#[s,x],argTypes:=#[25,25] })
  (hs:a.eval s = v) (hx:a.eval x = .slice (some ⟨w.heap.size,0,none⟩) 1 1)
  (hK:∀ g cap W,Mine W B g cap (xs ++ [c]) → Below B w W → wpList Tryz.prog ops Q rest (a.put o.dst (.slice (some ⟨g,0,none⟩) (xs.length + 1) cap)) W) :
  wpList Tryz.prog ops Q (o :: rest) a (w.alloc (.cells #[.int .u8 z] 5)):=by
 have hat:At (w.alloc (.cells #[.int .u8 z] 5)) (some ⟨w.heap.size,0,none⟩) [c]:=by
  refine .inr ⟨_,_,rfl,by simp,fun j hj => ?_⟩
  have hj0:j = 0:=by simp at hj;omega
  subst hj0
  rw [World.cell?_alloc_new,hz]
  rfl
 have hb0:Below B w (w.alloc (.cells #[.int .u8 z] 5)):=(Below.refl _ _).alloc hB _
 obtain ⟨g,cap,W,hr,hm,hb⟩:=onto_has B v xs [c] ⟨w.heap.size,0,none⟩ 1 _ (hown.alloc _) hat (by simp) (by simpa using hlen) (Nat.le_trans hB hb0.size)
 have e:(xs ++ [c]).length = xs.length + 1:=by simp
 rw [e] at hr
 have hr':AppRun Tryz.prog 25 25 o.type v (.slice (some ⟨w.heap.size,0,none⟩) 1 1) (w.alloc (.cells #[.int .u8 z] 5)) (.slice (some ⟨g,0,none⟩) (xs.length + 1) cap) W:=by rw [ht];exact hr
 exact wpList_append_ran hr' hg hop hs hx (hK g cap W hm (hb0.trans hb))
end Go.Proofs.YtfcblnknoljkhaaGreatDoor
namespace Go.Proofs.YtfcblnknoljkhaaGreatDoor
open Go.RowKit
structure Aside (F:Nat → Prop) (w w':World):Prop where
 os:w'.os = w.os
 tape:w'.tape = w.tape
 output:w'.output = w.output
 size:w.heap.size ≤ w'.heap.size
 block:∀ k,k < w.heap.size → ¬ F k → w'.heap[k]? = w.heap[k]?
section
variable {F G:Nat → Prop} {w w' w'':World}
theorem Aside.refl (F:Nat → Prop) (w:World):Aside F w w:=⟨rfl,rfl,rfl,Nat.le_refl _,fun _ _ _ => rfl⟩
theorem Aside.trans (h:Aside F w w') (k:Aside G w' w'') (hg:∀ i,i < w.heap.size → G i → F i):Aside F w w'' :=
 ⟨k.os.trans h.os,k.tape.trans h.tape,k.output.trans h.output,Nat.le_trans h.size k.size,fun i hi hf => (k.block i (Nat.lt_of_lt_of_le hi h.size) (fun hc => hf (hg i hi hc))).trans (h.block i hi hf)⟩
theorem Aside.mono (h:Aside F w w') (hg:∀ i,i < w.heap.size → F i → G i):Aside G w w' :=
 ⟨h.os,h.tape,h.output,h.size,fun i hi hf => h.block i hi (fun hc => hf (hg i hi hc))⟩
theorem aside_of {B:Nat} (h:Below B w w') (hF:∀ k,k < w.heap.size → B ≤ k → F k):Aside F w w' :=
 ⟨h.os,h.tape,h.output,h.size,fun k hk hf => h.block k (by
  rcases Nat.lt_or_ge k B with h1 | h1
  ·exact h1
  ·exact absurd (hF k hk h1) hf)⟩
theorem aside_new (h:Below w.heap.size w w') (F:Nat → Prop):Aside F w w':=aside_of h fun _ h1 h2 => absurd h1 (Nat.not_lt_of_le h2)
theorem Aside.below {B:Nat} (h:Aside F w w') (hB:B ≤ w.heap.size) (hF:∀ k,k < B → ¬ F k):Below B w w' :=
 ⟨h.os,h.tape,h.output,h.size,fun k hk => h.block k (by omega) (hF k hk)⟩
theorem Aside.alloc (h:Aside F w w') (o:Obj):Aside F w (w'.alloc o) :=
 h.trans (aside_new ((Below.refl w'.heap.size w').alloc (Nat.le_refl _) o) F) fun _ _ h => h
theorem Aside.drew (h:Aside F w w'):Aside F w w'.drew:=⟨h.os,h.tape,h.output,h.size,h.block⟩
theorem Aside.drewN (h:Aside F w w') (n:Nat):Aside F w (w'.drewN n):=⟨h.os,h.tape,h.output,h.size,h.block⟩
theorem Aside.setCell (h:Aside F w w') {p:Addr} (hp:F p.block ∨ w.heap.size ≤ p.block) (u:Value):Aside F w (w'.setCell p u):=by
 refine ⟨h.os,h.tape,h.output,by simpa [World.setCell] using h.size,fun k hk hf => ?_⟩
 rw [Below.heap_setCell _ _ _ _ (fun hc => ?_)]
 ·exact h.block k hk hf
 ·rcases hp with hp | hp
  ·rw [← hc] at hp;exact hf hp
  ·omega
theorem Aside.cell (h:Aside F w w') {p:Addr} (hl:p.block < w.heap.size) (hp:¬ F p.block):w'.cell? p = w.cell? p:=World.cell?_of_block (w:=w) (h.block p.block hl hp)
theorem Aside.frozen (h:Aside F w w') {p:Addr} (hl:p.block < w.heap.size) (hp:¬ F p.block):w'.frozen? p = w.frozen? p:=World.frozen?_of_block (w:=w) (h.block p.block hl hp)
end
end Go.Proofs.YtfcblnknoljkhaaGreatDoor
namespace Go.Proofs.YtfcblnknoljkhaaGreatDoor
open Go.RowKit
section
variable {F G:Nat → Prop} {w w' w'':World}
theorem At.aside {p:Option Addr} {l:List UInt8} (h:At w p l) (ha:Aside F w w') (hp:∀ b o,p = some ⟨b,o,none⟩ → ¬ F b):At w' p l:=by
 rcases h with rfl | ⟨b,o,rfl,hlt,hc⟩
 ·exact .inl rfl
 ·refine .inr ⟨b,o,rfl,by have:=ha.size;omega,fun j hj => ?_⟩
  rw [ha.cell (p:=⟨b,o + j,none⟩) hlt (hp b o rfl)]
  exact hc j hj
theorem Has.lt {B:Nat} {v:Value} {l:List UInt8} (h:Has w B v l):∀ k,v.ownBlock = some k → B ≤ k ∧ k < w.heap.size:=World.ownsRow.lt h
theorem Has.aside {B:Nat} {v:Value} {l:List UInt8} (h:Has w B v l) (ha:Aside F w w') (hp:∀ k,v.ownBlock = some k → ¬ F k):Has w' B v l:=by
 refine ⟨h.1,?_⟩
 rcases h.2 with h1 | ⟨g,cap,cur,rfl,h2,h3,h4⟩
 ·exact .inl h1
 ·refine .inr ⟨g,cap,cur,rfl,h2,?_,h4⟩
  rw [ha.block g (Array.getElem?_eq_some_iff.1 h3).1 (hp g rfl)]
  exact h3
theorem Has.low {B B':Nat} {v:Value} {l:List UInt8} (h:Has w B v l) (hB:B' ≤ B):Has w B' v l:=by
 refine ⟨h.1,?_⟩
 rcases h.2 with h1 | ⟨g,cap,cur,rfl,h2,h3⟩
 ·exact .inl h1
 ·exact .inr ⟨g,cap,cur,rfl,by omega,h3⟩
end
end Go.Proofs.YtfcblnknoljkhaaGreatDoor
namespace Go.Proofs.YtfcblnknoljkhaaGreatDoor
open Go.RowKit
theorem aside_grew {w w':World} {row:Option Nat} (hg:w.grownBy w' row):Aside (fun k => row = some k) w w':=⟨hg.os,hg.tape,hg.output,hg.size,fun k hk hf => hg.block k hk (fun hc => hf hc.symm)⟩
theorem lies_wide {P:Program} (w:World) (t ty:TypeId) (base:Nat) (e:TypeId) (i:TypeInfo) (z:Value) (size bytes:Nat) (ht:P.underlying t = some (.slice e)) (hi:P.info? e = some i) (hz:i.zero = some z)
  (hsize:i.size = size) (hby:i.bytes = bytes) (hzs:z.cells.size = size) (hsz:0 < size)
  (v:Value) (n:Nat) (xs:List Value) (hown:w.ownsRow base e size v n xs)
  (ad:Addr) (m c:Nat) (news:List Value) (hl:news.length = m * size) (hnews:∀ j u,news[j]? = some u → w.cell? (ad.add j) = some u) (h1:∀ u ∈ news,u.oneCell' = true)
  (hm:0 < m) (h63:n + m ≤ maxLen) (hbytes:((n + m) + (n + m) / 4 + 192) * bytes ≤ 281474976710656) (hbase:base ≤ w.heap.size) :
  ∃ g cap w',(Builtin.append_ #[t,t] ty #[v,.slice (some ad) m c]).run P w = .ok (.slice (some ⟨g,0,none⟩) (n + m) cap) w' ∧
   w'.ownsRow base e size (.slice (some ⟨g,0,none⟩) (n + m) cap) (n + m) (xs ++ news) ∧ w.grownBy w' v.ownBlock ∧ (v.ownBlock = some g ∨ w.heap.size ≤ g) ∧ g < w'.heap.size:=by
 obtain ⟨v',w',hr,h2,h3,_⟩:=run_append_own_wide (P:=P) w base t ty e i z size bytes ht hi hz hsize hby hzs hsz v n xs hown ad m c news hl hnews h1 h63 hbytes hbase
 obtain ⟨g,cap,rfl,_,hlt⟩:=h2.form (by omega)
 refine ⟨g,cap,w',hr,h2,h3,?_,hlt⟩
 rcases hown.2 with ⟨rfl,rfl⟩ | ⟨g0,cap0,cur,rfl,hbg,hg,hnc,hcm,hcs,htake⟩
 ·have hx:xs = []:=List.eq_nil_of_length_eq_zero (by simpa using hown.1)
  subst hx
  obtain ⟨v2,w2,hr2,h22,_⟩:=run_append_own_wide (P:=P) w w.heap.size t ty e i z size bytes ht hi hz hsize hby hzs hsz (.slice none 0 0) 0 [] (World.ownsRow_nil w w.heap.size e size) ad m c news hl hnews h1 h63 hbytes (Nat.le_refl _)
  obtain ⟨g2,cap2,rfl,hb2,_⟩:=h22.form (by omega)
  rw [hr2] at hr
  injection hr with e1
  injection e1 with e1
  injection e1 with e1
  injection e1 with e1
  exact .inr (by omega)
 ·subst hsize hby
  have hsmall:n + m ≤ 9223372036854775807:=by simp only [maxLen] at h63;omega
  by_cases hroom:n + m ≤ cap0
  ·have hfit:n * i.size + news.length ≤ cur.size:=by rw [hl,hcs,← Nat.add_mul];exact Nat.mul_le_mul_right _ hroom
   have hr2:=run_append_room (P:=P) w t ty e i ht hi g0 n cap0 cur hg ad m c news hl hnews h1 hroom hfit
   rw [hr2] at hr
   injection hr with e1
   injection e1 with e1
   injection e1 with e1
   injection e1 with e1
   exact .inl (by rw [← e1];rfl)
  ·have holds:∀ j u,xs[j]? = some u → w.cell? ((⟨g0,0,none⟩:Addr).add j) = some u:=hown.cells (g:=g0) rfl
   have hr2:=run_append_grow (P:=P) w t ty e i z ht hi hz ⟨g0,0,none⟩ n cap0 xs hown.1 holds ad m c news hl hnews (by omega) (by omega) (growslice_fits_wide (by omega) hbytes)
   rw [hr2] at hr
   injection hr with e1
   injection e1 with e1
   injection e1 with e1
   injection e1 with e1
   exact .inr (by omega)
theorem onto_all (B:Nat) (v:Value) (xs l:List UInt8) (p:Option Addr) (c:Nat) (w:World) (hown:Has w B v xs) (h:At w p l) (hlen:xs.length + l.length ≤ 200000000000000) (hB:B ≤ w.heap.size) :
  ∃ (q:Option Addr) (cap:Nat) (W:World),AppRun Tryz.prog 25 25 25 v (.slice p l.length c) w (.slice q (xs ++ l).length cap) W ∧ Has W B (.slice q (xs ++ l).length cap) (xs ++ l) ∧ Aside (fun k => v.ownBlock = some k) w W ∧ (xs ++ l).length ≤ cap ∧ ∀ k,(Value.slice q (xs ++ l).length cap).ownBlock = some k → v.ownBlock = some k ∨ w.heap.size ≤ k:=by
 obtain ⟨i,hi,hz,hsz,hby⟩:=info_parts info8
 by_cases h0:l = []
 ·subst h0
  obtain ⟨q,cap,rfl,-,hcap⟩:=hown.at
  rw [List.append_nil]
  exact ⟨q,cap,w,⟨run_append_nothing (P:=Tryz.prog) w 25 25 25 5 i Tryz.underlying25 hi q xs.length cap hcap (.slice p 0 c) (by rw [hsz];exact src_bytes c h)⟩,hown,Aside.refl _ _,hcap,fun k hk => .inl hk⟩
 ·obtain ⟨b,o,rfl,hbl,hc⟩:=at_some h (List.length_pos_iff.2 h0)
  obtain ⟨g,cap,W,hr,hm,hgr,hgb,_⟩:=lies_wide (P:=Tryz.prog) w 25 25 B 5 i (.int .u8 0) 1 1 Tryz.underlying25 hi hz hsz hby rfl (by decide) v xs.length (cellsOf xs) hown ⟨b,o,none⟩ l.length c (cellsOf l) (by rw [cellsOf_length,Nat.mul_one])
   (fun j u hj => by
    have hj2:j < l.length:=by
     have:=(List.getElem?_eq_some_iff.1 hj).1
     simpa [cellsOf] using this
    rw [cellsOf_get l j hj2] at hj
    cases hj
    rw [Lib.add_plain]
    exact hc j hj2)
   (fun u hu => by obtain ⟨_,_,rfl⟩:=List.mem_map.1 hu;rfl) (List.length_pos_iff.2 h0) (by unfold maxLen;omega) (by omega) hB
  rw [← cellsOf_append,← List.length_append] at hm
  rw [← List.length_append] at hr
  have hH:Has W B (.slice (some ⟨g,0,none⟩) (xs ++ l).length cap) (xs ++ l):=hm
  refine ⟨some ⟨g,0,none⟩,cap,W,⟨hr⟩,hH,aside_grew hgr,?_,?_⟩
  ·obtain ⟨q',cap',he,_,h2⟩:=hH.at
   injection he with _ _ e2
   omega
  ·intro k hk
   simp only [Value.ownBlock,Option.some.injEq] at hk
   subst hk
   rcases hgb with h1 | h1
   ·exact .inl h1
   ·exact .inr (by omega)
theorem wp_ontoL {B:Nat} {v:Value} {xs l:List UInt8} {p:Option Addr} {c:Nat} {w:World} (hown:Has w B v xs) (h:At w p l) (hlen:xs.length + l.length ≤ 200000000000000) (hB:B ≤ w.heap.size)
  {ops:Array Oper} {rest:List Oper} {o:Oper} {a:Act} {Q:Exit → Act → World → Prop} {y x:Operand}
  (ht:o.type = 25) (hg:o.guard = none) (hop:o.op = Op.call { callee:=Callee.builtin Builtin.append,args:=#[y,x],argTypes:=#[25,25] })
  (hs:a.eval y = v) (hx:a.eval x = .slice p l.length c)
  (hK:∀ ys q cap W,Hid (ys = xs ++ l) → Has W B (.slice q ys.length cap) ys → Aside (fun k => v.ownBlock = some k) w W → (∀ k,(Value.slice q ys.length cap).ownBlock = some k → v.ownBlock = some k ∨ w.heap.size ≤ k) → wpList Tryz.prog ops Q rest (a.put o.dst (.slice q ys.length cap)) W) :
  wpList Tryz.prog ops Q (o :: rest) a w:=by
 obtain ⟨q,cap,W,hr,hm,ha,-,hb⟩:=onto_all B v xs l p c w hown h hlen hB
 have hr':AppRun Tryz.prog 25 25 o.type v (.slice p l.length c) w (.slice q (xs ++ l).length cap) W:=by rw [ht];exact hr
 exact wpList_append_ran hr' hg hop hs hx (hK _ q cap W (Lib.hid rfl) hm ha hb)
theorem strCells_eq (t:ByteArray):Lib.strCells t = cellsOf t.data.toList:=by
 simp [Lib.strCells,cellsOf]
theorem onto_str (B:Nat) (v:Value) (xs:List UInt8) (t:ByteArray) (w:World) (hown:Has w B v xs) (hlen:xs.length + t.size ≤ 140737488355328) (hB:B ≤ w.heap.size) :
  ∃ (q:Option Addr) (cap:Nat) (W:World),AppRun Tryz.prog 25 9 25 v (.string t) w (.slice q (xs ++ t.data.toList).length cap) W ∧ Has W B (.slice q (xs ++ t.data.toList).length cap) (xs ++ t.data.toList) ∧ Aside (fun k => v.ownBlock = some k) w W ∧ ∀ k,(Value.slice q (xs ++ t.data.toList).length cap).ownBlock = some k → v.ownBlock = some k ∨ w.heap.size ≤ k:=by
 obtain ⟨i,hi,hz,hsz,hby⟩:=info_parts info8
 obtain ⟨v',w',hr,h2,h3,h4⟩:=Lib.run_append_own_string (P:=Tryz.prog) w B 25 9 25 5 i Tryz.underlying25 Tryz.underlying9 hi hz hsz hby v xs.length (cellsOf xs) hown t (by unfold maxLen;omega) hlen hB
 have hs:t.data.toList.length = t.size:=by rw [Array.length_toList];rfl
 have hblk:∀ k,v'.ownBlock = some k → v.ownBlock = some k ∨ w.heap.size ≤ k:=by
  intro k hk
  rcases hown.2 with ⟨rfl,hn0⟩ | ⟨g,cap,cur,rfl,hbg,hg,hnc,hcm,hcs,htake⟩
  ·by_cases hm:t.size = 0
   ·rw [h4.2 ⟨rfl,hm⟩] at hk
    simp [Value.ownBlock] at hk
   ·have hr2:=run_append_nil_string (P:=Tryz.prog) w 25 9 25 5 i (.int .u8 0) Tryz.underlying25 Tryz.underlying9 hi hz t (by omega) (by omega) (by rw [hby];omega)
    have e:=hr.symm.trans hr2
    injection e with e1 e2
    rw [e1] at hk
    simp only [Value.ownBlock,Option.some.injEq] at hk
    exact .inr (by omega)
  ·by_cases hroom:xs.length + t.size ≤ cap
   ·have hcs':cur.size = cap:=by simpa using hcs
    have hr2:=Lib.run_append_room_string (P:=Tryz.prog) w 25 9 25 5 i Tryz.underlying25 Tryz.underlying9 hi hsz g xs.length cap cur hg t hroom (by omega)
    have e:=hr.symm.trans hr2
    injection e with e1 e2
    rw [e1] at hk
    exact .inl hk
   ·have hxl:(cellsOf xs).length = xs.length:=cellsOf_length xs
    have hr2:=Lib.run_append_grow_string (P:=Tryz.prog) w 25 9 25 5 i (.int .u8 0) Tryz.underlying25 Tryz.underlying9 hi hz ⟨g,0,none⟩ xs.length cap (cellsOf xs) (by rw [hsz,hxl,Nat.mul_one]) (World.ownsRow.cells (g:=g) hown rfl) t (by omega) (by omega) (by rw [hby];exact growslice_fits (by omega) (by omega))
    have e:=hr.symm.trans hr2
    injection e with e1 e2
    rw [e1] at hk
    simp only [Value.ownBlock,Option.some.injEq] at hk
    exact .inr (by omega)
 rw [strCells_eq,← cellsOf_append,← hs,← List.length_append] at h2
 have hH:Has w' B v' (xs ++ t.data.toList):=h2
 obtain ⟨q,cap,rfl,-,-⟩:=hH.at
 exact ⟨q,cap,w',⟨hr⟩,hH,aside_grew h3,hblk⟩
theorem wp_ontoS {B:Nat} {v:Value} {xs:List UInt8} {t:ByteArray} {w:World} (hown:Has w B v xs) (hlen:xs.length + t.size ≤ 140737488355328) (hB:B ≤ w.heap.size)
  {ops:Array Oper} {rest:List Oper} {o:Oper} {a:Act} {Q:Exit → Act → World → Prop} {y x:Operand}
  (ht:o.type = 25) (hg:o.guard = none) (hop:o.op = Op.call { callee:=Callee.builtin Builtin.append,args:=#[y,x],argTypes:=#[25,9] })
  (hs:a.eval y = v) (hx:a.eval x = .string t)
  (hK:∀ ys q cap W,Hid (ys = xs ++ t.data.toList) → Has W B (.slice q ys.length cap) ys → Aside (fun k => v.ownBlock = some k) w W → (∀ k,(Value.slice q ys.length cap).ownBlock = some k → v.ownBlock = some k ∨ w.heap.size ≤ k) → wpList Tryz.prog ops Q rest (a.put o.dst (.slice q ys.length cap)) W) :
  wpList Tryz.prog ops Q (o :: rest) a w:=by
 obtain ⟨q,cap,W,hr,hm,ha,hb⟩:=onto_str B v xs t w hown hlen hB
 have hr':AppRun Tryz.prog 25 9 o.type v (.string t) w (.slice q (xs ++ t.data.toList).length cap) W:=by rw [ht];exact hr
 exact wpList_append_ran hr' hg hop hs hx (hK _ q cap W (Lib.hid rfl) hm ha hb)
theorem aside_low {B:Nat} {v:Value} {xs:List UInt8} {w W:World} (ha:Aside (fun k => v.ownBlock = some k) w W) (hown:Has w B v xs) (hB:B ≤ w.heap.size):Below B w W :=
 ha.below hB (fun k hk hc => by have:=(hown.lt k hc).1;omega)
theorem has_lit {B:Nat} {w:World} (l:List UInt8) {C:Array Value} (hC:C = (cellsOf l).toArray) (hB:B ≤ w.heap.size) (hl:l.length ≤ 1000000):Has (w.alloc (.cells C 5)) B (.slice (some ⟨w.heap.size,0,none⟩) l.length l.length) l:=by
 subst hC
 refine ⟨by rw [cellsOf_length,Nat.mul_one],.inr ⟨w.heap.size,l.length,(cellsOf l).toArray,rfl,hB,heap_new w _,Nat.le_refl _,by unfold maxLen;omega,by simp [cellsOf],?_⟩⟩
 rw [List.toList_toArray,Nat.mul_one,List.take_of_length_le (by rw [cellsOf_length];exact Nat.le_refl _)]
theorem Has.on {B:Nat} {w w':World} {v:Value} {l:List UInt8} (h:Has w B v l) (hb:Below w.heap.size w w'):Has w' B v l:=h.aside (aside_new hb (fun _ => False)) (fun _ _ hc => hc)
theorem Has.lower {B B':Nat} {w:World} {v:Value} {l:List UInt8} (h:Has w B v l) (hB:B' ≤ B):Has w B' v l:=h.low hB
theorem wp_pushH {B:Nat} {v:Value} {xs:List UInt8} {w:World} {H:Nat} (hH:w.heap.size = H) (hown:Has w B v xs) (c:UInt8) (hlen:xs.length + 1 ≤ 200000000000000) (hB:B ≤ w.heap.size)
  {z:Int} {ops:Array Oper} {rest:List Oper} {o:Oper} {a:Act} {Q:Exit → Act → World → Prop} {s x:Operand}
  (hz:z = (c.toNat:Int)) (ht:o.type = 25) (hg:o.guard = none) (hop:o.op = Op.call { callee:=Callee.builtin Builtin.append,args:=#[s,x],argTypes:=#[25,25] })
  (hs:a.eval s = v) (hx:a.eval x = .slice (some ⟨H,0,none⟩) 1 1)
  (hK:∀ g cap W,Mine W B g cap (xs ++ [c]) → Below B w W → wpList Tryz.prog ops Q rest (a.put o.dst (.slice (some ⟨g,0,none⟩) (xs.length + 1) cap)) W) :
  wpList Tryz.prog ops Q (o :: rest) a (w.alloc (.cells #[.int .u8 z] 5)):=by
 subst hH
 exact wp_push hown c hlen hB hz ht hg hop hs hx hK
end Go.Proofs.YtfcblnknoljkhaaGreatDoor
namespace Go.Proofs.YtfcblnknoljkhaaGreatDoor
open Go.RowKit
def textOf (l:List UInt8):ByteArray:=⟨l.toArray⟩
theorem textOf_data (l:List UInt8):(textOf l).data.toList = l:=by simp [textOf]
theorem conv_str {w:World} {p:Option Addr} {l:List UInt8} (h:At w p l) (c:Nat):(convert 25 9 (.slice p l.length c)).run Tryz.prog w = .ok (.string (textOf l)) w:=by
 have hu:Tryz.prog.underlying 5 = some (.int .u8):=Tryz.underlying5
 rcases h with rfl | ⟨b,o,rfl,hb,hc⟩
 ·rw [run_convert_bytes_string w 25 9 5 _ _ c Tryz.underlying25 hu Tryz.underlying9]
  cases p with
  | none =>
   simp [Conv.bytesToString,textOf,ByteArray.empty,ByteArray.emptyWithCapacity]
   rfl
  | some a =>
   have hl:(loadCells a 0).run Tryz.prog w = .ok ((([]:List Int).map (Value.int .u8)).toArray) w:=by
    have:=run_loadCells_list (P:=Tryz.prog) w a [] (fun j v hj => by simp at hj)
    simpa using this
   rw [List.length_nil,run_bytesToString w a 0 c [] hl]
   rfl
 ·have h:=run_convert_bytes_arg (P:=Tryz.prog) w 25 5 Tryz.underlying25 hu b o l.length c (l.map fun x => (x.toNat:Int)) (by simp) (fun i hi => by
   rw [hc i hi]
   simp [hi]) 9 Tryz.underlying9
  rw [h]
  congr 2
  show (⟨_⟩:ByteArray) = ⟨_⟩
  congr 1
  rw [List.map_map]
  congr 1
  have:(l.map ((fun n:Int => UInt8.ofNat n.toNat) ∘ fun x:UInt8 => (x.toNat:Int))) = l.map id:=List.map_congr_left (fun x _ => by simp)
  rw [this,List.map_id]
end Go.Proofs.YtfcblnknoljkhaaGreatDoor
