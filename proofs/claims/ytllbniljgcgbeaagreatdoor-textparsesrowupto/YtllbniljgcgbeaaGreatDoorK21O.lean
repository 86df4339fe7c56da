import Derived.Test.YtllbniljgcgbeaaGreatDoorA17
import Derived.Defers
import Derived.Recover
set_option maxRecDepth 100000
set_option maxHeartbeats 8000000
namespace Go.Proofs.YtllbniljgcgbeaaGreatDoor
open Go.RowKit
attribute [local go_sem] run_store_float
structure ParB (W:World) (g:Nat) (T:TypeId) (C:Array Value) (e a:Int):Prop where
 b0:W.heap[g]? = some (.cells C T (0,0))
 b1:W.heap[g + 1]? = some (.cells #[.int .i64 e] 26 (0,0))
 b2:W.heap[g + 2]? = some (.cells #[.int .i64 a] 3 (0,0))
theorem ParB.aside {W W':World} {g:Nat} {T:TypeId} {C:Array Value} {e a:Int} {F:Nat → Prop} (h:ParB W g T C e a) (ha:Aside F W W') (hF:∀ k,F k → g + 2 < k):ParB W' g T C e a:=by
 have l0:=blk_lt h.b0
 have l1:=blk_lt h.b1
 have l2:=blk_lt h.b2
 exact ⟨(ha.block _ l0 (fun hc => by have:=hF _ hc;omega)).trans h.b0,(ha.block _ l1 (fun hc => by have:=hF _ hc;omega)).trans h.b1,(ha.block _ l2 (fun hc => by have:=hF _ hc;omega)).trans h.b2⟩
theorem aside_set (w:World) (R m:Nat) (u:Value):Aside (fun i => i = R) w (w.setCell ⟨R,m,none⟩ u):=(Aside.refl (fun i => i = R) w).setCell (p:=⟨R,m,none⟩) (.inl rfl) u
theorem ParB.setE {W:World} {g:Nat} {T:TypeId} {C:Array Value} {e a:Int} (h:ParB W g T C e a) (e':Int):ParB (W.setCell ⟨g + 1,0,none⟩ (.int .i64 e')) g T C e' a:=by
 have ha:=aside_set W (g + 1) 0 (.int .i64 e')
 exact ⟨(ha.block _ (blk_lt h.b0) (by omega)).trans h.b0,by rw [blk_set h.b1 0];rfl,(ha.block _ (blk_lt h.b2) (by omega)).trans h.b2⟩
theorem ParB.setA {W:World} {g:Nat} {T:TypeId} {C:Array Value} {e a:Int} (h:ParB W g T C e a) (a':Int):ParB (W.setCell ⟨g + 2,0,none⟩ (.int .i64 a')) g T C e a':=by
 have ha:=aside_set W (g + 2) 0 (.int .i64 a')
 exact ⟨(ha.block _ (blk_lt h.b0) (by omega)).trans h.b0,(ha.block _ (blk_lt h.b1) (by omega)).trans h.b1,by rw [blk_set h.b2 0];rfl⟩
theorem ParB.setT {W V:World} {g:Nat} {T:TypeId} {C C':Array Value} {e a:Int} (h:ParB W g T C e a) (ha:Aside (fun i => i = g) W V) (hb:V.heap[g]? = some (.cells C' T (0,0))):ParB V g T C' e a:=⟨hb,(ha.block _ (blk_lt h.b1) (by omega)).trans h.b1,(ha.block _ (blk_lt h.b2) (by omega)).trans h.b2⟩
theorem run_fault (k a:Int) (w:World):(Instr.typeAssert (.iface 88 (.agg #[.int .i64 k,.int .i64 a])) 20 88 false).run Tryz.prog w = .ok (.agg #[.int .i64 k,.int .i64 a]) w:=by kernel_rfl
theorem par_end {w V:World} {g:Nat} {T:TypeId} {C C':Array Value} {y1 y2 k a:Int} (h:ParB w g T C y1 y2) (ha:Aside (fun i => i = g) w V) (hb:V.heap[g]? = some (.cells C' T (0,0))) (o1 o2:Obj):ParB ((((V.setCell ⟨g + 1,0,none⟩ (.int .i64 k)).setCell ⟨g + 2,0,none⟩ (.int .i64 a)).alloc o1).alloc o2).drew g T C' k a ∧ Aside (fun i => g ≤ i ∧ i ≤ g + 2) w ((((V.setCell ⟨g + 1,0,none⟩ (.int .i64 k)).setCell ⟨g + 2,0,none⟩ (.int .i64 a)).alloc o1).alloc o2).drew:=by
 have h2:=((h.setT ha hb).setE k).setA a
 have hA2:Aside (fun i => g ≤ i ∧ i ≤ g + 2) w ((V.setCell ⟨g + 1,0,none⟩ (.int .i64 k)).setCell ⟨g + 2,0,none⟩ (.int .i64 a)) :=
  ((ha.mono (G:=fun i => g ≤ i ∧ i ≤ g + 2) (fun i _ he => by omega)).trans (aside_set V (g + 1) 0 (.int .i64 k)) (fun i _ he => by omega)).trans (aside_set _ (g + 2) 0 (.int .i64 a)) (fun i _ he => by omega)
 generalize (V.setCell ⟨g + 1,0,none⟩ (.int .i64 k)).setCell ⟨g + 2,0,none⟩ (.int .i64 a) = X at h2 hA2 ⊢
 have hb1:Below X.heap.size X ((X.alloc o1).alloc o2).drew:=(((Below.refl _ _).alloc (Nat.le_refl _) o1).alloc (by simp) o2).drew
 exact ⟨h2.aside (aside_new hb1 (fun _ => False)) (fun _ h => h.elim),hA2.trans (aside_new hb1 (fun _ => False)) (fun _ _ h => h.elim)⟩
theorem catchType (g:Nat) (x0 x1:Value) (y1 y2 k a:Int) (w:World) (h:ParB w g 32 #[x0,x1] y1 y2) :
  CallsD Tryz.prog 76 #[.pointer (some ⟨g,0,none⟩),.pointer (some ⟨g + 1,0,none⟩),.pointer (some ⟨g + 2,0,none⟩)] (.panicking [{ v:=.iface 88 (.agg #[.int .i64 k,.int .i64 a]),recovered:=false }]) w fun e u' w' =>
   e = .returned (.tuple #[]) ∧ u' = .panicking [{ v:=.iface 88 (.agg #[.int .i64 k,.int .i64 a]),recovered:=true }] ∧ ParB w' g 32 #[.int .i64 0,.slice none 0 0] k a ∧ Aside (fun i => g ≤ i ∧ i ≤ g + 2) w w':=by
 have hta:=run_fault k a
 have c0:w.cell? ⟨g,0,none⟩ = some x0:=blk_cell h.b0 0
 have t0:=blk_free h.b0 0
 have c1:w.cell? ⟨g,1,none⟩ = some x1:=blk_cell h.b0 1
 have t1:=blk_free h.b0 1
 have c8:w.cell? ⟨g + 1,0,none⟩ = some (.int .i64 y1):=blk_cell h.b1 0
 have t8:=blk_free h.b1 0
 have c9:w.cell? ⟨g + 2,0,none⟩ = some (.int .i64 y2):=blk_cell h.b2 0
 have t9:=blk_free h.b2 0
 have l2:=blk_lt h.b2
 have l1:g + 1 < w.heap.size:=by omega
 have l0:g < w.heap.size:=by omega
 have HEnd:=Lib.hid (fun o1 o2 => par_end (V:=((w.setCell ⟨g,0,none⟩ (.int .i64 0)).setCell ⟨g,1,none⟩ (.slice none 0 0))) (C':=#[.int .i64 0,.slice none 0 0]) (k:=k) (a:=a) h (((Aside.refl (fun i => i = g) w).setCell (p:=⟨g,0,none⟩) (.inl rfl) _).setCell (p:=⟨g,1,none⟩) (.inl rfl) _) (by rw [blk_set (blk_set h.b0 0 _) 1 _];rfl) o1 o2)
 clear h
 refine callsD_of_wpS Tryz.func76 rfl fun c₀ cs hu => ?_
 apply wpS_seq
 apply wpS_region
 simp [wpOpsS,go_sem,recoverD,hu,Tryz.ntmps76,Exit.thenS]
 refine wpS_of_wp ?_
 go_wp2_with fail
 go_region_law (fail)
 all_goals
  show bodyPostS Tryz.prog Tryz.f76 c₀ cs _ Exit.normal _ _ _
  simp [bodyPostS,results,Tryz.results76]
  exact HEnd.out _ _
theorem idleType (p q r:Addr) (w:World) :
  CallsD Tryz.prog 76 #[.pointer (some p),.pointer (some q),.pointer (some r)] .returning w fun e u' w' => e = .returned (.tuple #[]) ∧ u' = .returning ∧ w' = w:=by
 refine callsD_of_wpS Tryz.func76 rfl fun c₀ cs hu => ?_
 apply wpS_seq
 apply wpS_region
 simp [wpOpsS,go_sem,recoverD,hu,Tryz.ntmps76,Exit.thenS]
 refine wpS_of_wp ?_
 go_wp2_with fail
 cases c₀
 simp_all [bodyPostS,results,Tryz.results76]
theorem catchSchema (g:Nat) (x0:Value) (y1 y2 k a:Int) (w:World) (h:ParB w g 25 #[x0] y1 y2) :
  CallsD Tryz.prog 47 #[.pointer (some ⟨g,0,none⟩),.pointer (some ⟨g + 1,0,none⟩),.pointer (some ⟨g + 2,0,none⟩)] (.panicking [{ v:=.iface 88 (.agg #[.int .i64 k,.int .i64 a]),recovered:=false }]) w fun e u' w' =>
   e = .returned (.tuple #[]) ∧ u' = .panicking [{ v:=.iface 88 (.agg #[.int .i64 k,.int .i64 a]),recovered:=true }] ∧ ParB w' g 25 #[.slice none 0 0] k a ∧ Aside (fun i => g ≤ i ∧ i ≤ g + 2) w w':=by
 have hta:=run_fault k a
 have c0:w.cell? ⟨g,0,none⟩ = some x0:=blk_cell h.b0 0
 have t0:=blk_free h.b0 0
 have c8:w.cell? ⟨g + 1,0,none⟩ = some (.int .i64 y1):=blk_cell h.b1 0
 have t8:=blk_free h.b1 0
 have c9:w.cell? ⟨g + 2,0,none⟩ = some (.int .i64 y2):=blk_cell h.b2 0
 have t9:=blk_free h.b2 0
 have l2:=blk_lt h.b2
 have l1:g + 1 < w.heap.size:=by omega
 have l0:g < w.heap.size:=by omega
 have HEnd:=Lib.hid (fun o1 o2 => par_end (V:=(w.setCell ⟨g,0,none⟩ (.slice none 0 0))) (C':=#[.slice none 0 0]) (k:=k) (a:=a) h ((Aside.refl (fun i => i = g) w).setCell (p:=⟨g,0,none⟩) (.inl rfl) _) (by rw [blk_set h.b0 0 _];rfl) o1 o2)
 clear h
 refine callsD_of_wpS Tryz.func47 rfl fun c₀ cs hu => ?_
 apply wpS_seq
 apply wpS_region
 simp [wpOpsS,go_sem,recoverD,hu,Tryz.ntmps47,Exit.thenS]
 refine wpS_of_wp ?_
 go_wp2_with fail
 go_region_law (fail)
 all_goals
  show bodyPostS Tryz.prog Tryz.f47 c₀ cs _ Exit.normal _ _ _
  simp [bodyPostS,results,Tryz.results47]
  exact HEnd.out _ _
theorem idleSchema (p q r:Addr) (w:World) :
  CallsD Tryz.prog 47 #[.pointer (some p),.pointer (some q),.pointer (some r)] .returning w fun e u' w' => e = .returned (.tuple #[]) ∧ u' = .returning ∧ w' = w:=by
 refine callsD_of_wpS Tryz.func47 rfl fun c₀ cs hu => ?_
 apply wpS_seq
 apply wpS_region
 simp [wpOpsS,go_sem,recoverD,hu,Tryz.ntmps47,Exit.thenS]
 refine wpS_of_wp ?_
 go_wp2_with fail
 cases c₀
 simp_all [bodyPostS,results,Tryz.results47]
theorem catchValue (g:Nat) (x0 x1 x2 x3 x4:Value) (y1 y2 k a:Int) (w:World) (h:ParB w g 36 #[x0,x1,x2,x3,x4] y1 y2) :
  CallsD Tryz.prog 63 #[.pointer (some ⟨g,0,none⟩),.pointer (some ⟨g + 1,0,none⟩),.pointer (some ⟨g + 2,0,none⟩)] (.panicking [{ v:=.iface 88 (.agg #[.int .i64 k,.int .i64 a]),recovered:=false }]) w fun e u' w' =>
   e = .returned (.tuple #[]) ∧ u' = .panicking [{ v:=.iface 88 (.agg #[.int .i64 k,.int .i64 a]),recovered:=true }] ∧ ParB w' g 36 #[.int .i64 0,.int .i64 0,.float .f64 0,.string ⟨#[]⟩,.slice none 0 0] k a ∧ Aside (fun i => g ≤ i ∧ i ≤ g + 2) w w':=by
 have hta:=run_fault k a
 have c0:w.cell? ⟨g,0,none⟩ = some x0:=blk_cell h.b0 0
 have t0:=blk_free h.b0 0
 have c1:w.cell? ⟨g,1,none⟩ = some x1:=blk_cell h.b0 1
 have t1:=blk_free h.b0 1
 have c2:w.cell? ⟨g,2,none⟩ = some x2:=blk_cell h.b0 2
 have t2:=blk_free h.b0 2
 have c3:w.cell? ⟨g,3,none⟩ = some x3:=blk_cell h.b0 3
 have t3:=blk_free h.b0 3
 have c4:w.cell? ⟨g,4,none⟩ = some x4:=blk_cell h.b0 4
 have t4:=blk_free h.b0 4
 have c8:w.cell? ⟨g + 1,0,none⟩ = some (.int .i64 y1):=blk_cell h.b1 0
 have t8:=blk_free h.b1 0
 have c9:w.cell? ⟨g + 2,0,none⟩ = some (.int .i64 y2):=blk_cell h.b2 0
 have t9:=blk_free h.b2 0
 have l2:=blk_lt h.b2
 have l1:g + 1 < w.heap.size:=by omega
 have l0:g < w.heap.size:=by omega
 have HEnd:=Lib.hid (fun o1 o2 => par_end (V:=(((((w.setCell ⟨g,0,none⟩ (.int .i64 0)).setCell ⟨g,1,none⟩ (.int .i64 0)).setCell ⟨g,2,none⟩ (.float .f64 0)).setCell ⟨g,3,none⟩ (.string ⟨#[]⟩)).setCell ⟨g,4,none⟩ (.slice none 0 0))) (C':=#[.int .i64 0,.int .i64 0,.float .f64 0,.string ⟨#[]⟩,.slice none 0 0]) (k:=k) (a:=a) h ((((((Aside.refl (fun i => i = g) w).setCell (p:=⟨g,0,none⟩) (.inl rfl) _).setCell (p:=⟨g,1,none⟩) (.inl rfl) _).setCell (p:=⟨g,2,none⟩) (.inl rfl) _).setCell (p:=⟨g,3,none⟩) (.inl rfl) _).setCell (p:=⟨g,4,none⟩) (.inl rfl) _) (by rw [blk_set (blk_set (blk_set (blk_set (blk_set h.b0 0 _) 1 _) 2 _) 3 _) 4 _];rfl) o1 o2)
 clear h
 refine callsD_of_wpS Tryz.func63 rfl fun c₀ cs hu => ?_
 apply wpS_seq
 apply wpS_region
 simp [wpOpsS,go_sem,recoverD,hu,Tryz.ntmps63,Exit.thenS]
 refine wpS_of_wp ?_
 go_wp2_with fail
 go_region_law (fail)
 all_goals
  show bodyPostS Tryz.prog Tryz.f63 c₀ cs _ Exit.normal _ _ _
  simp [bodyPostS,results,Tryz.results63]
  exact HEnd.out _ _
theorem idleValue (p q r:Addr) (w:World) :
  CallsD Tryz.prog 63 #[.pointer (some p),.pointer (some q),.pointer (some r)] .returning w fun e u' w' => e = .returned (.tuple #[]) ∧ u' = .returning ∧ w' = w:=by
 refine callsD_of_wpS Tryz.func63 rfl fun c₀ cs hu => ?_
 apply wpS_seq
 apply wpS_region
 simp [wpOpsS,go_sem,recoverD,hu,Tryz.ntmps63,Exit.thenS]
 refine wpS_of_wp ?_
 go_wp2_with fail
 cases c₀
 simp_all [bodyPostS,results,Tryz.results63]
theorem catchRow (g:Nat) (x0:Value) (y1 y2 k a:Int) (w:World) (h:ParB w g 44 #[x0] y1 y2) :
  CallsD Tryz.prog 68 #[.pointer (some ⟨g,0,none⟩),.pointer (some ⟨g + 1,0,none⟩),.pointer (some ⟨g + 2,0,none⟩)] (.panicking [{ v:=.iface 88 (.agg #[.int .i64 k,.int .i64 a]),recovered:=false }]) w fun e u' w' =>
   e = .returned (.tuple #[]) ∧ u' = .panicking [{ v:=.iface 88 (.agg #[.int .i64 k,.int .i64 a]),recovered:=true }] ∧ ParB w' g 44 #[.slice none 0 0] k a ∧ Aside (fun i => g ≤ i ∧ i ≤ g + 2) w w':=by
 have hta:=run_fault k a
 have c0:w.cell? ⟨g,0,none⟩ = some x0:=blk_cell h.b0 0
 have t0:=blk_free h.b0 0
 have c8:w.cell? ⟨g + 1,0,none⟩ = some (.int .i64 y1):=blk_cell h.b1 0
 have t8:=blk_free h.b1 0
 have c9:w.cell? ⟨g + 2,0,none⟩ = some (.int .i64 y2):=blk_cell h.b2 0
 have t9:=blk_free h.b2 0
 have l2:=blk_lt h.b2
 have l1:g + 1 < w.heap.size:=by omega
 have l0:g < w.heap.size:=by omega
 have HEnd:=Lib.hid (fun o1 o2 => par_end (V:=(w.setCell ⟨g,0,none⟩ (.slice none 0 0))) (C':=#[.slice none 0 0]) (k:=k) (a:=a) h ((Aside.refl (fun i => i = g) w).setCell (p:=⟨g,0,none⟩) (.inl rfl) _) (by rw [blk_set h.b0 0 _];rfl) o1 o2)
 clear h
 refine callsD_of_wpS Tryz.func68 rfl fun c₀ cs hu => ?_
 apply wpS_seq
 apply wpS_region
 simp [wpOpsS,go_sem,recoverD,hu,Tryz.ntmps68,Exit.thenS]
 refine wpS_of_wp ?_
 go_wp2_with fail
 go_region_law (fail)
 all_goals
  show bodyPostS Tryz.prog Tryz.f68 c₀ cs _ Exit.normal _ _ _
  simp [bodyPostS,results,Tryz.results68]
  exact HEnd.out _ _
theorem idleRow (p q r:Addr) (w:World) :
  CallsD Tryz.prog 68 #[.pointer (some p),.pointer (some q),.pointer (some r)] .returning w fun e u' w' => e = .returned (.tuple #[]) ∧ u' = .returning ∧ w' = w:=by
 refine callsD_of_wpS Tryz.func68 rfl fun c₀ cs hu => ?_
 apply wpS_seq
 apply wpS_region
 simp [wpOpsS,go_sem,recoverD,hu,Tryz.ntmps68,Exit.thenS]
 refine wpS_of_wp ?_
 go_wp2_with fail
 cases c₀
 simp_all [bodyPostS,results,Tryz.results68]
end Go.Proofs.YtllbniljgcgbeaaGreatDoor
