import Derived.Test.YtllbniljgcgbeaaGreatDoorA17
set_option maxRecDepth 100000
set_option maxHeartbeats 8000000
namespace Go.Proofs.YtllbniljgcgbeaaGreatDoor
open Go.RowKit
attribute [local go_sem] ah
structure cL(W:World)(g:Nat)(T:TypeId)(C:AV)(e a:Int):Prop where
 b0:W.1[g]?=some (.cells C T (0,0))
 b1:W.1[g+1]?=some (.cells #[.int .i64 e] 26 (0,0))
 b2:W.1[g+2]?=some (.cells #[.int .i64 a] 3 (0,0))
theorem cL.aside{W W':World}{g:Nat}{T:TypeId}{C:AV}{e a:Int}{F:Nat->Prop}(h:cL W g T C e a)(ha:Aside F W W')(hF:∀k,F k->g+2<k):cL W' g T C e a:=by
 have l0:=ae h.b0
 have l1:=ae h.b1
 have l2:=ae h.b2
 exact⟨(ha.block _ l0 (fun hc=>by have:=hF _ hc;omega)).trans h.b0,(ha.block _ l1 (fun hc=>by have:=hF _ hc;omega)).trans h.b1,(ha.block _ l2 (fun hc=>by have:=hF _ hc;omega)).trans h.b2⟩
theorem aw(w:World)(R m:Nat)(u:Value):Aside (fun i=>i=R) w (w.setCell ⟨R,m,none⟩ u):=(Aside.refl (fun i=>i=R) w).setCell (p:=⟨R,m,none⟩) (.inl rfl) u
theorem cL.setE{W:World}{g:Nat}{T:TypeId}{C:AV}{e a:Int}(h:cL W g T C e a)(e':Int):cL (W.setCell ⟨g+1,0,none⟩ (.int .i64 e')) g T C e' a:=by
 have ha:=aw W (g+1) 0 (.int .i64 e')
 exact⟨(ha.block _ (ae h.b0) (by omega)).trans h.b0,by rw[ai h.b1 0];rfl,(ha.block _ (ae h.b2) (by omega)).trans h.b2⟩
theorem cL.setA{W:World}{g:Nat}{T:TypeId}{C:AV}{e a:Int}(h:cL W g T C e a)(a':Int):cL (W.setCell ⟨g+2,0,none⟩ (.int .i64 a')) g T C e a':=by
 have ha:=aw W (g+2) 0 (.int .i64 a')
 exact⟨(ha.block _ (ae h.b0) (by omega)).trans h.b0,(ha.block _ (ae h.b1) (by omega)).trans h.b1,by rw[ai h.b2 0];rfl⟩
theorem cL.setT{W V:World}{g:Nat}{T:TypeId}{C C':AV}{e a:Int}(h:cL W g T C e a)(ha:Aside (fun i=>i=g) W V)(hb:V.1[g]?=some (.cells C' T (0,0))):cL V g T C' e a:=⟨hb,(ha.block _ (ae h.b1) (by omega)).trans h.b1,(ha.block _ (ae h.b2) (by omega)).trans h.b2⟩
theorem dY(k a:Int)(w:World):(Instr.typeAssert (.iface 88 (.agg #[.int .i64 k,.int .i64 a])) 20 88 false).run Tryz.prog w=.ok (.agg #[.int .i64 k,.int .i64 a]) w:=by kernel_rfl
theorem f7{w V:World}{g:Nat}{T:TypeId}{C C':AV}{y1 y2 k a:Int}(h:cL w g T C y1 y2)(ha:Aside (fun i=>i=g) w V)(hb:V.1[g]?=some (.cells C' T (0,0)))(o1 o2:Obj):cL ((((V.setCell ⟨g+1,0,none⟩ (.int .i64 k)).setCell ⟨g+2,0,none⟩ (.int .i64 a)).alloc o1).alloc o2).drew g T C' k a∧Aside (fun i=>g<=i∧i<=g+2) w ((((V.setCell ⟨g+1,0,none⟩ (.int .i64 k)).setCell ⟨g+2,0,none⟩ (.int .i64 a)).alloc o1).alloc o2).drew:=by
 have h2:=((h.setT ha hb).setE k).setA a
 have hA2:Aside (fun i=>g<=i∧i<=g+2) w ((V.setCell ⟨g+1,0,none⟩ (.int .i64 k)).setCell ⟨g+2,0,none⟩ (.int .i64 a)) :=
  ((ha.mono (G:=fun i=>g<=i∧i<=g+2) (fun i _ he=>by omega)).trans (aw V (g+1) 0 (.int .i64 k)) (fun i _ he=>by omega)).trans (aw _ (g+2) 0 (.int .i64 a)) (fun i _ he=>by omega)
 generalize (V.setCell ⟨g+1,0,none⟩ (.int .i64 k)).setCell ⟨g+2,0,none⟩ (.int .i64 a)=X at h2 hA2 ⊢
 have hb1:Below X.1.size X ((X.alloc o1).alloc o2).drew:=((tZ.alloc tX o1).alloc (by simp) o2).drew
 exact⟨h2.aside (ag hb1 (fun _=>False)) (fun _ h=>h.elim),hA2.trans (ag hb1 (fun _=>False)) (fun _ _ h=>h.elim)⟩
theorem od(g:Nat)(x0 x1:Value)(y1 y2 k a:Int)(w:World)(h:cL w g 32 #[x0,x1] y1 y2):
  CallsD Tryz.prog 76 #[.pointer (some ⟨g,0,none⟩),.pointer (some ⟨g+1,0,none⟩),.pointer (some ⟨g+2,0,none⟩)] (.panicking [{ v:=.iface 88 (.agg #[.int .i64 k,.int .i64 a]),recovered:=false }]) w fun e u' w'=>
   e=.returned (.tuple #[])∧u'=.panicking [{ v:=.iface 88 (.agg #[.int .i64 k,.int .i64 a]),recovered:=true }]∧cL w' g 32 #[.int .i64 0,.slice none 0 0] k a∧Aside (fun i=>g<=i∧i<=g+2) w w':=by
 have hta:=dY k a
 have c0:w.cell? ⟨g,0,none⟩=some x0:=ab h.b0 0
 have t0:=ac h.b0 0
 have c1:w.cell? ⟨g,1,none⟩=some x1:=ab h.b0 1
 have t1:=ac h.b0 1
 have c8:w.cell? ⟨g+1,0,none⟩=some (.int .i64 y1):=ab h.b1 0
 have t8:=ac h.b1 0
 have c9:w.cell? ⟨g+2,0,none⟩=some (.int .i64 y2):=ab h.b2 0
 have t9:=ac h.b2 0
 have l2:=ae h.b2
 have l1:g+1<w.1.size:=by omega
 have l0:g<w.1.size:=by omega
 have HEnd:=tQ (fun o1 o2=>f7 (V:=((w.setCell ⟨g,0,none⟩ (.int .i64 0)).setCell ⟨g,1,none⟩ (.slice none 0 0))) (C':=#[.int .i64 0,.slice none 0 0]) (k:=k) (a:=a) h (((Aside.refl (fun i=>i=g) w).setCell (p:=⟨g,0,none⟩) (.inl rfl) _).setCell (p:=⟨g,1,none⟩) (.inl rfl) _) (by rw[ai (ai h.b0 0 _) 1 _];rfl) o1 o2)
 clear h
 refine callsD_of_wpS Tryz.func76 rfl fun c₀ cs hu=>?_
 apply wpS_seq
 apply wpS_region
 simp[wpOpsS,go_sem,recoverD,hu,Tryz.ntmps76,Exit.thenS]
 refine wpS_of_wp ?_
 go_wp2_with fail
 go_region_law (fail)
 all_goals
  show bodyPostS Tryz.prog Tryz.f76 c₀ cs _ Exit.normal _ _ _
  simp[bodyPostS,results,Tryz.results76]
  exact HEnd.out _ _
theorem pJ(p q r:Addr)(w:World):
  CallsD Tryz.prog 76 #[.pointer (some p),.pointer (some q),.pointer (some r)] .returning w fun e u' w'=>e=.returned (.tuple #[])∧u'=.returning∧w'=w:=by
 refine callsD_of_wpS Tryz.func76 rfl fun c₀ cs hu=>?_
 apply wpS_seq
 apply wpS_region
 simp[wpOpsS,go_sem,recoverD,hu,Tryz.ntmps76,Exit.thenS]
 refine wpS_of_wp ?_
 go_wp2_with fail
 cases c₀
 simp_all [bodyPostS,results,Tryz.results76]
theorem kZ(g:Nat)(x0:Value)(y1 y2 k a:Int)(w:World)(h:cL w g 25 #[x0] y1 y2):
  CallsD Tryz.prog 47 #[.pointer (some ⟨g,0,none⟩),.pointer (some ⟨g+1,0,none⟩),.pointer (some ⟨g+2,0,none⟩)] (.panicking [{ v:=.iface 88 (.agg #[.int .i64 k,.int .i64 a]),recovered:=false }]) w fun e u' w'=>
   e=.returned (.tuple #[])∧u'=.panicking [{ v:=.iface 88 (.agg #[.int .i64 k,.int .i64 a]),recovered:=true }]∧cL w' g 25 #[.slice none 0 0] k a∧Aside (fun i=>g<=i∧i<=g+2) w w':=by
 have hta:=dY k a
 have c0:w.cell? ⟨g,0,none⟩=some x0:=ab h.b0 0
 have t0:=ac h.b0 0
 have c8:w.cell? ⟨g+1,0,none⟩=some (.int .i64 y1):=ab h.b1 0
 have t8:=ac h.b1 0
 have c9:w.cell? ⟨g+2,0,none⟩=some (.int .i64 y2):=ab h.b2 0
 have t9:=ac h.b2 0
 have l2:=ae h.b2
 have l1:g+1<w.1.size:=by omega
 have l0:g<w.1.size:=by omega
 have HEnd:=tQ (fun o1 o2=>f7 (V:=(w.setCell ⟨g,0,none⟩ (.slice none 0 0))) (C':=#[.slice none 0 0]) (k:=k) (a:=a) h ((Aside.refl (fun i=>i=g) w).setCell (p:=⟨g,0,none⟩) (.inl rfl) _) (by rw[ai h.b0 0 _];rfl) o1 o2)
 clear h
 refine callsD_of_wpS Tryz.func47 rfl fun c₀ cs hu=>?_
 apply wpS_seq
 apply wpS_region
 simp[wpOpsS,go_sem,recoverD,hu,Tryz.ntmps47,Exit.thenS]
 refine wpS_of_wp ?_
 go_wp2_with fail
 go_region_law (fail)
 all_goals
  show bodyPostS Tryz.prog Tryz.f47 c₀ cs _ Exit.normal _ _ _
  simp[bodyPostS,results,Tryz.results47]
  exact HEnd.out _ _
theorem lZ(p q r:Addr)(w:World):
  CallsD Tryz.prog 47 #[.pointer (some p),.pointer (some q),.pointer (some r)] .returning w fun e u' w'=>e=.returned (.tuple #[])∧u'=.returning∧w'=w:=by
 refine callsD_of_wpS Tryz.func47 rfl fun c₀ cs hu=>?_
 apply wpS_seq
 apply wpS_region
 simp[wpOpsS,go_sem,recoverD,hu,Tryz.ntmps47,Exit.thenS]
 refine wpS_of_wp ?_
 go_wp2_with fail
 cases c₀
 simp_all [bodyPostS,results,Tryz.results47]
theorem me(g:Nat)(x0 x1 x2 x3 x4:Value)(y1 y2 k a:Int)(w:World)(h:cL w g 36 #[x0,x1,x2,x3,x4] y1 y2):
  CallsD Tryz.prog 63 #[.pointer (some ⟨g,0,none⟩),.pointer (some ⟨g+1,0,none⟩),.pointer (some ⟨g+2,0,none⟩)] (.panicking [{ v:=.iface 88 (.agg #[.int .i64 k,.int .i64 a]),recovered:=false }]) w fun e u' w'=>
   e=.returned (.tuple #[])∧u'=.panicking [{ v:=.iface 88 (.agg #[.int .i64 k,.int .i64 a]),recovered:=true }]∧cL w' g 36 #[.int .i64 0,.int .i64 0,.float .f64 0,.string ⟨#[]⟩,.slice none 0 0] k a∧Aside (fun i=>g<=i∧i<=g+2) w w':=by
 have hta:=dY k a
 have c0:w.cell? ⟨g,0,none⟩=some x0:=ab h.b0 0
 have t0:=ac h.b0 0
 have c1:w.cell? ⟨g,1,none⟩=some x1:=ab h.b0 1
 have t1:=ac h.b0 1
 have c2:w.cell? ⟨g,2,none⟩=some x2:=ab h.b0 2
 have t2:=ac h.b0 2
 have c3:w.cell? ⟨g,3,none⟩=some x3:=ab h.b0 3
 have t3:=ac h.b0 3
 have c4:w.cell? ⟨g,4,none⟩=some x4:=ab h.b0 4
 have t4:=ac h.b0 4
 have c8:w.cell? ⟨g+1,0,none⟩=some (.int .i64 y1):=ab h.b1 0
 have t8:=ac h.b1 0
 have c9:w.cell? ⟨g+2,0,none⟩=some (.int .i64 y2):=ab h.b2 0
 have t9:=ac h.b2 0
 have l2:=ae h.b2
 have l1:g+1<w.1.size:=by omega
 have l0:g<w.1.size:=by omega
 have HEnd:=tQ (fun o1 o2=>f7 (V:=(((((w.setCell ⟨g,0,none⟩ (.int .i64 0)).setCell ⟨g,1,none⟩ (.int .i64 0)).setCell ⟨g,2,none⟩ (.float .f64 0)).setCell ⟨g,3,none⟩ (.string ⟨#[]⟩)).setCell ⟨g,4,none⟩ (.slice none 0 0))) (C':=#[.int .i64 0,.int .i64 0,.float .f64 0,.string ⟨#[]⟩,.slice none 0 0]) (k:=k) (a:=a) h ((((((Aside.refl (fun i=>i=g) w).setCell (p:=⟨g,0,none⟩) (.inl rfl) _).setCell (p:=⟨g,1,none⟩) (.inl rfl) _).setCell (p:=⟨g,2,none⟩) (.inl rfl) _).setCell (p:=⟨g,3,none⟩) (.inl rfl) _).setCell (p:=⟨g,4,none⟩) (.inl rfl) _) (by rw[ai (ai (ai (ai (ai h.b0 0 _) 1 _) 2 _) 3 _) 4 _];rfl) o1 o2)
 clear h
 refine callsD_of_wpS Tryz.func63 rfl fun c₀ cs hu=>?_
 apply wpS_seq
 apply wpS_region
 simp[wpOpsS,go_sem,recoverD,hu,Tryz.ntmps63,Exit.thenS]
 refine wpS_of_wp ?_
 go_wp2_with fail
 go_region_law (fail)
 all_goals
  show bodyPostS Tryz.prog Tryz.f63 c₀ cs _ Exit.normal _ _ _
  simp[bodyPostS,results,Tryz.results63]
  exact HEnd.out _ _
theorem nS(p q r:Addr)(w:World):
  CallsD Tryz.prog 63 #[.pointer (some p),.pointer (some q),.pointer (some r)] .returning w fun e u' w'=>e=.returned (.tuple #[])∧u'=.returning∧w'=w:=by
 refine callsD_of_wpS Tryz.func63 rfl fun c₀ cs hu=>?_
 apply wpS_seq
 apply wpS_region
 simp[wpOpsS,go_sem,recoverD,hu,Tryz.ntmps63,Exit.thenS]
 refine wpS_of_wp ?_
 go_wp2_with fail
 cases c₀
 simp_all [bodyPostS,results,Tryz.results63]
theorem p8(g:Nat)(x0:Value)(y1 y2 k a:Int)(w:World)(h:cL w g 44 #[x0] y1 y2):
  CallsD Tryz.prog 68 #[.pointer (some ⟨g,0,none⟩),.pointer (some ⟨g+1,0,none⟩),.pointer (some ⟨g+2,0,none⟩)] (.panicking [{ v:=.iface 88 (.agg #[.int .i64 k,.int .i64 a]),recovered:=false }]) w fun e u' w'=>
   e=.returned (.tuple #[])∧u'=.panicking [{ v:=.iface 88 (.agg #[.int .i64 k,.int .i64 a]),recovered:=true }]∧cL w' g 44 #[.slice none 0 0] k a∧Aside (fun i=>g<=i∧i<=g+2) w w':=by
 have hta:=dY k a
 have c0:w.cell? ⟨g,0,none⟩=some x0:=ab h.b0 0
 have t0:=ac h.b0 0
 have c8:w.cell? ⟨g+1,0,none⟩=some (.int .i64 y1):=ab h.b1 0
 have t8:=ac h.b1 0
 have c9:w.cell? ⟨g+2,0,none⟩=some (.int .i64 y2):=ab h.b2 0
 have t9:=ac h.b2 0
 have l2:=ae h.b2
 have l1:g+1<w.1.size:=by omega
 have l0:g<w.1.size:=by omega
 have HEnd:=tQ (fun o1 o2=>f7 (V:=(w.setCell ⟨g,0,none⟩ (.slice none 0 0))) (C':=#[.slice none 0 0]) (k:=k) (a:=a) h ((Aside.refl (fun i=>i=g) w).setCell (p:=⟨g,0,none⟩) (.inl rfl) _) (by rw[ai h.b0 0 _];rfl) o1 o2)
 clear h
 refine callsD_of_wpS Tryz.func68 rfl fun c₀ cs hu=>?_
 apply wpS_seq
 apply wpS_region
 simp[wpOpsS,go_sem,recoverD,hu,Tryz.ntmps68,Exit.thenS]
 refine wpS_of_wp ?_
 go_wp2_with fail
 go_region_law (fail)
 all_goals
  show bodyPostS Tryz.prog Tryz.f68 c₀ cs _ Exit.normal _ _ _
  simp[bodyPostS,results,Tryz.results68]
  exact HEnd.out _ _
theorem qW(p q r:Addr)(w:World):
  CallsD Tryz.prog 68 #[.pointer (some p),.pointer (some q),.pointer (some r)] .returning w fun e u' w'=>e=.returned (.tuple #[])∧u'=.returning∧w'=w:=by
 refine callsD_of_wpS Tryz.func68 rfl fun c₀ cs hu=>?_
 apply wpS_seq
 apply wpS_region
 simp[wpOpsS,go_sem,recoverD,hu,Tryz.ntmps68,Exit.thenS]
 refine wpS_of_wp ?_
 go_wp2_with fail
 cases c₀
 simp_all [bodyPostS,results,Tryz.results68]
end Go.Proofs.YtllbniljgcgbeaaGreatDoor
