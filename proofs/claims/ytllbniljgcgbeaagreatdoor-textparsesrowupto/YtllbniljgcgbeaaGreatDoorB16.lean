import Derived.Test.YtllbniljgcgbeaaGreatDoorB02
import Derived.Deep.RegionLaw
import Derived.Deep.RegionHeldLaw
import Derived.Deep.QuietTactic
import Derived.Test.YtllbniljgcgbeaaGreatDoorB01
namespace Go.Proofs.YtllbniljgcgbeaaGreatDoor
open Go.RowKit
end Go.Proofs.YtllbniljgcgbeaaGreatDoor
namespace Go.Proofs.YtllbniljgcgbeaaGreatDoor
open Go
section
variable {P:Program} {md:Region.Mode} {l:List Oper} {o:Oper} {Q:Exit → Act → World → Prop}
end
end Go.Proofs.YtllbniljgcgbeaaGreatDoor
namespace Go.Proofs.YtllbniljgcgbeaaGreatDoor
open Go.RowKit
def Ext (w:World):Type:={ w':World // Below w.heap.size w w' }
def InExt (w w':World):Prop:=∃ z:Ext w,w' = z.val
section
variable {P:Program} {ops:Array Oper} {Q:Exit → Act → World → Prop} {u:World}
theorem guard_of {o:Oper} {k:Nat} (h0:ops[k]? = some o) (h:((ops[k]?).map (·.guard.isNone)).getD false = true) (f:Nat → Option Bool):Region.wanted o f = true:=by
 rw [h0] at h
 simp only [Option.map_some,Option.getD_some,Option.isNone_iff_eq_none] at h
 simp [Region.wanted,h]
end
end Go.Proofs.YtllbniljgcgbeaaGreatDoor
namespace Go.Proofs.YtllbniljgcgbeaaGreatDoor
open Go.RowKit
section
variable {P:Program} {ops:Array Oper} {Q:Exit → Act → World → Prop}
theorem wpAnyH_weak {md:Region.Mode} {S S':World → Prop} (h:∀ w,S' w → S w):∀ (fuel:Nat) (b:Array Bool) (a:Act) (w:World),wpAnyH P md ops Q S' fuel b a w → wpAnyH P md ops Q S fuel b a w
 | 0,_,_,_,k => k
 | fuel + 1,_,_,_,k => ⟨k.1,fun i hi => wpOp_mono (fun a' w' h' => ⟨h w' h'.1,wpAnyH_weak h fuel _ a' w' h'.2⟩) (k.2 i hi)⟩
def wpPlan (P:Program) (ops:Array Oper) (Q:Exit → Act → World → Prop):List (Bool × Nat) → World → Act → World → Prop
 | [],_,a,w => Q .normal a w
 | (true,i) :: r,u,a,w => ∃ o,ops[i]? = some o ∧ ∃ v,(∀ z:Ext u,(execOp a.eval o).run P z.val = .ok (.value v) z.val) ∧ wpPlan P ops Q r u (a.put o.dst v) w
 | (false,i) :: r,u,a,w => ∃ o,ops[i]? = some o ∧ o.wp P a w (fun a' w' => InExt u w' ∧ wpPlan P ops Q r w' a' w') Q
theorem wpPlan_look {i:Nat} {r:List (Bool × Nat)} {u:World} {a:Act} {w:World} {l:List Oper} (h:match l[i]? with
  | some o => ∃ v,(∀ z:Ext u,(execOp a.eval o).run P z.val = .ok (.value v) z.val) ∧ wpPlan P l.toArray Q r u (a.put o.dst v) w
  | none => False):wpPlan P l.toArray Q ((true,i) :: r) u a w:=by
 split at h
 ·next o ho => exact ⟨o,by simpa using ho,h⟩
 ·exact h.elim
theorem wpPlan_go {i:Nat} {r:List (Bool × Nat)} {u:World} {a:Act} {w:World} {l:List Oper} (h:match l[i]? with
  | some o => ∀ K:Act → World → Prop,(∀ a' w',InExt u w' → wpPlan P l.toArray Q r w' a' w' → K a' w') → o.wp P a w K Q
  | none => False):wpPlan P l.toArray Q ((false,i) :: r) u a w:=by
 split at h
 ·next o ho => exact ⟨o,by simpa using ho,h _ fun _ _ h1 h2 => ⟨h1,h2⟩⟩
 ·exact h.elim
theorem wpPlan_end {u:World} {a:Act} {w:World} (h:Q .normal a w):wpPlan P ops Q [] u a w:=h
def planB (ops:Array Oper):List (Bool × Nat) → Array Bool → Bool
 | [],b => (Region.ready .any ops b).isEmpty
 | (true,i) :: r,b => (Region.ready .any ops b).contains i && Region.free .any ops b i && ((ops[i]?).map (·.guard.isNone)).getD false && planB ops r (b.setIfInBounds i true)
 | (false,i) :: r,b => (Region.ready .any ops b == [i]) && ((ops[i]?).map (·.guard.isNone)).getD false && planB ops r (b.setIfInBounds i true)
theorem InExt.trans {u v w:World} (h:InExt u v) (k:InExt v w):InExt u w:=by
 obtain ⟨z,rfl⟩:=h
 obtain ⟨y,rfl⟩:=k
 exact ⟨⟨y.1,z.2.trans (y.2.mono z.2.size)⟩,rfl⟩
theorem plan_any (hs:Region.noSelect ops = true) (hQ:∀ c d v a w,Q (.panic c) (Act.put a d v) w → Q (.panic c) a w):∀ (l:List (Bool × Nat)) (u:World) (b:Array Bool) (a:Act) (w:World),InExt u w → planB ops l b = true → wpPlan P ops Q l u a w → wpAnyH P .any ops Q (InExt u) l.length b a w
 | [],u,b,a,w,_,hB,h => ⟨by simpa [planB] using hB,h⟩
 | (true,i) :: r,u,b,a,w,hw,hB,h => by
  obtain ⟨o,ho,v,h1,h2⟩:=h
  simp only [planB,Bool.and_eq_true] at hB
  obtain ⟨⟨⟨hr,hf⟩,hg⟩,hB'⟩:=hB
  refine wpAnyH_take (v:=v) ho hs hf hr (fun c a w => hQ c _ _ a w) (.inl ⟨guard_of ho hg _,?_⟩) hw (plan_any hs hQ r u _ _ w hw hB' h2)
  rintro _ ⟨z,rfl⟩
  exact h1 z
 | (false,i) :: r,u,b,a,w,hw,hB,h => by
  obtain ⟨o,ho,h1⟩:=h
  simp only [planB,Bool.and_eq_true,beq_iff_eq] at hB
  obtain ⟨⟨hr,hg⟩,hB'⟩:=hB
  refine wpAnyH_all hr (by simp) fun j hj => ?_
  rw [List.mem_singleton] at hj
  subst hj
  unfold wpOp
  simp only [ho,guard_of ho hg,if_true]
  exact .inl (Oper.wp_mono (fun a' w' h' => ⟨h'.1,wpAnyH_weak (fun x hx => h'.1.trans hx) _ _ _ _ (plan_any hs hQ r w' _ a' w' ⟨⟨w',Below.refl _ _⟩,rfl⟩ hB' h'.2)⟩) h1)
theorem wp_region_plan {id:Nat} {a:Act} {u:World} (l:List (Bool × Nat)) (hm:P.follows .mixedOrders = true) (hB:(decide (l.length = ops.size) && Region.noSelect ops && planB ops l (Array.replicate ops.size false)) = true) (hQ:∀ c d v a w,Q (.panic c) (Act.put a d v) w → Q (.panic c) a w)
  (h:wpPlan P ops Q l u a u.drew):(Code.region id ops true).wp P Q a u:=by
 simp only [Bool.and_eq_true,decide_eq_true_eq] at hB
 obtain ⟨⟨h1,h2⟩,h3⟩:=hB
 refine wp_region_held (S:=InExt u) hm ?_
 rw [← h1]
 have h4:=plan_any h2 hQ l u (Array.replicate ops.size false) a u.drew ⟨⟨u.drew,(Below.refl _ _).drew⟩,rfl⟩ h3 h
 rw [← h1] at h4
 exact h4
end
end Go.Proofs.YtllbniljgcgbeaaGreatDoor
