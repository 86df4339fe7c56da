import Derived.Test.YtfcblnknoljkhaaGreatDoorA7
import Derived.Deep.Slices
import Derived.Lib.SmallJoins
set_option maxRecDepth 100000
namespace Go.Proofs.YtfcblnknoljkhaaGreatDoor
open Go.ChangeShapes Go.WideShapes Go.ChangeAt Go.RowKit Go.Deep
theorem add_off (b o j:Nat):(⟨b,o,none⟩:Addr).add j = ⟨b,o + j,none⟩:=by unfold Addr.add;split <;> simp_all
theorem int_wf {n:Int} (h:(Lit.int .i64 n).wf = true):-9223372036854775808 ≤ n ∧ n ≤ 9223372036854775807:=by
 have h':(decide (IntKind.i64.min ≤ n) && decide (n ≤ IntKind.i64.max)) = true:=h
 rw [Bool.and_eq_true,decide_eq_true_eq,decide_eq_true_eq] at h'
 have e1:IntKind.i64.min = -9223372036854775808:=by decide
 have e2:IntKind.i64.max = 9223372036854775807:=by decide
 rw [e1,e2] at h'
 exact h'
theorem float_wf {n:Nat} (h:(Lit.float .f64 n).wf = true):n < 18446744073709551616:=by
 have h':decide (n < 2 ^ 64) = true:=h
 rw [decide_eq_true_eq] at h'
 exact h'
section
variable {H:Type} {enc:TypeId × Value → H} {W:World}
theorem trod_float6 {fuel:Nat} {t:TypeId} {cs:List Value} {x:DataW H × List MemPlace} {k:FloatKind} (ht:Tryz.prog.underlying t = some (.float k)) (h:DataW.trod enc Tryz.prog W 0 (fun _ => true) true fuel t cs = some x):∃ b,cs = [.float k b] ∧ x = (.lit (.float k b),[]) ∧ (Lit.float k b).wf = true:=by
 cases fuel with
 | zero => simp [DataW.trod] at h
 | succ n =>
  unfold DataW.trod at h
  rw [ht] at h
  split at h <;> simp_all
theorem weightsAll_mem {P:Program} {e:TypeId}:∀ {l:List (DataW H)} {i:Nat} {d:DataW H},l[i]? = some d → ∀ n ∈ d.weights P e,n ∈ DataW.weightsAll P e l
 | [],_,_,h => by simp at h
 | x :: r,0,d,h => by
  intro n hn
  simp at h
  subst h
  simp [DataW.weightsAll,hn]
 | x :: r,i + 1,d,h => by
  intro n hn
  have:=weightsAll_mem (l:=r) (i:=i) (d:=d) (by simpa using h) n hn
  simp [DataW.weightsAll,this]
theorem choose_row {T:Type} [Inhabited T] {c len:Nat} {a:Addr} {L:Array Value → T → Prop} (hc:0 < c) (each:∀ i,i < len → ∃ z:List Value × T,W.cells? 0 (a.add (i * c)) c = some z.1 ∧ L z.1.toArray z.2) :
  ∃ (us:Nat → Array Value) (zs:List T),zs.length = len ∧ (0 < len → ∃ b off,a = ⟨b,off,none⟩ ∧ b < W.heap.size ∧ ∀ j,j < len → ∀ m,m < c → W.cell? ⟨b,off + j * c + m,none⟩ = (us j)[m]?) ∧ ∀ j (h:j < zs.length),L (us j) zs[j]:=by
 haveI:Inhabited (List Value × T):=⟨⟨[],default⟩⟩
 obtain ⟨z,hz⟩:=choose_lt each
 refine ⟨fun j => (z j).1.toArray,(List.range len).map fun i => (z i).2,by simp,fun h0 => ?_,fun j hj => ?_⟩
 ·obtain ⟨b,off,spot⟩:=a
  obtain ⟨_,hlen0,hcell0⟩:=World.cells?_some (hz 0 h0).1
  have hc0:=hcell0 0 (by omega)
  rw [List.getElem?_eq_getElem (by omega)] at hc0
  have hspot:spot = none:=by simpa [Addr.add] using World.cell?_spot hc0
  subst hspot
  refine ⟨b,off,rfl,?_,fun j hj2 m hm => ?_⟩
  ·have:=World.block_lt_of_cell? _ _ hc0
   simpa [block_add] using this
  ·obtain ⟨_,hlenj,hcellj⟩:=World.cells?_some (hz j hj2).1
   have hcj:=hcellj m (by omega)
   rw [add_add,add_off] at hcj
   rw [← Nat.add_assoc] at hcj
   rw [hcj]
   simp [hlenj,hm]
 ·have hj2:j < len:=by simpa using hj
  simp only [List.getElem_map,List.getElem_range]
  exact (hz j hj2).2
theorem open_value:∀ (fuel:Nat) (cs:List Value) (D:DataW H) (Pl:List MemPlace),DataW.trod enc Tryz.prog W 0 (fun _ => true) true fuel 68 cs = some (D,Pl) → (∀ k ∈ D.weights Tryz.prog 68,k ≤ reachBytes) → ∃ x,VLies W cs.toArray x ∧ x.wf:=by
 intro fuel
 induction fuel using Nat.strongRecOn with
 | _ fuel ih =>
  intro cs D Pl h hw
  obtain ⟨xs,n,rfl,hx,hl,hlen,hf⟩:=DataW.trod_struct Tryz.underlying68 h
  have hc5:Tryz.prog.cellsOf 68 = 5:=by kernel_rfl
  have hb64:Tryz.prog.bytesOf 68 = 64:=by kernel_rfl
  have er:reachBytes = 140737488351232:=by decide
  rw [hc5] at hl
  match cs,hl,xs,hlen with
  | [v0,v1,v2,v3,v4],_,[y0,y1,y2,y3,y4],_ =>
   have c0:Tryz.prog.cellsOf 3 = 1:=by kernel_rfl
   have c1:Tryz.prog.cellsOf 2 = 1:=by kernel_rfl
   have c2:Tryz.prog.cellsOf 65 = 1:=by kernel_rfl
   have c3:Tryz.prog.cellsOf 9 = 1:=by kernel_rfl
   have c4:Tryz.prog.cellsOf 66 = 1:=by kernel_rfl
   have h0:DataW.trod enc Tryz.prog W 0 (fun _ => true) true n 3 [v0] = some y0:=by have:=hf 0 _ rfl;simpa [c0] using this
   have h1:DataW.trod enc Tryz.prog W 0 (fun _ => true) true n 2 [v1] = some y1:=by have:=hf 1 _ rfl;simpa [c1] using this
   have h2:DataW.trod enc Tryz.prog W 0 (fun _ => true) true n 65 [v2] = some y2:=by have:=hf 2 _ rfl;simpa [c2] using this
   have h3:DataW.trod enc Tryz.prog W 0 (fun _ => true) true n 9 [v3] = some y3:=by have:=hf 3 _ rfl;simpa [c3] using this
   have h4:DataW.trod enc Tryz.prog W 0 (fun _ => true) true n 66 [v4] = some y4:=by have:=hf 4 _ rfl;simpa [c4] using this
   obtain ⟨n0,hn0,_,w0⟩:=DataW.trod_int Tryz.underlying3 h0
   obtain ⟨n1,hn1,_,w1⟩:=DataW.trod_int Tryz.underlying2 h1
   obtain ⟨n2,hn2,_,w2⟩:=trod_float6 Tryz.underlying65 h2
   obtain ⟨n3,hn3,hy3,_⟩:=DataW.trod_string Tryz.underlying9 h3
   simp only [List.cons.injEq,and_true] at hn0 hn1 hn2 hn3
   subst hn0 hn1 hn2 hn3
   simp only [Prod.mk.injEq] at hx
   obtain ⟨rfl,_⟩:=hx
   have hs3:n3.size ≤ 140737488351232:=by
    have:=hw n3.data.toList.length (by
     simp [DataW.weights,DataW.weightsEach,Tryz.underlying68,hy3])
    rw [er] at this
    simpa using this
   have hw4:∀ k ∈ y4.1.weights Tryz.prog 66,k ≤ reachBytes:=fun k hk => hw k (by
    simp [DataW.weights,DataW.weightsEach,Tryz.underlying68]
    right;right;right;right
    exact hk)
   rcases DataW.trod_slice Tryz.underlying66 h4 with ⟨hcs,_⟩ | ⟨a,len,cap,elems,rest,n',rfl,hcs,hy,_,hlc,_,hel,hat,_⟩
   ·simp only [List.cons.injEq,and_true] at hcs
    subst hcs
    exact ⟨.mk n0 n1 n2 n3 [],vl_leafF W n0 n1 n2 n3 none 0,V.wf_mk.2 ⟨int_wf w0,int_wf w1,float_wf w2,hs3,fun x hx => by cases hx⟩⟩
   ·simp only [List.cons.injEq,and_true] at hcs
    subst hcs
    rw [hy] at hw4
    have hbd:len * 64 ≤ 140737488351232:=by
     have:=hw4 ((elems.length + rest.length) * Tryz.prog.bytesOf 68) (by simp [DataW.weights,Tryz.underlying66])
     rw [hb64,er] at this
     omega
    have each:∀ i,i < len → ∃ z:List Value × V,W.cells? 0 (a.add (i * 5)) 5 = some z.1 ∧ VLies W z.1.toArray z.2 ∧ z.2.wf:=by
     intro i hi
     have h5:=hat i hi
     rw [hc5] at h5
     obtain ⟨y,hy2⟩:∃ y,elems[i]? = some y:=⟨elems[i]'(by omega),List.getElem?_eq_getElem (by omega)⟩
     rw [hy2] at h5
     obtain ⟨cs',g1,g2⟩:=Option.bind_eq_some_iff.1 h5
     obtain ⟨x,hx⟩:=ih n' (by omega) cs' y.1 y.2 g2 (fun k hk => hw4 k (by
      simp only [DataW.weights,Tryz.underlying66]
      refine List.mem_cons_of_mem _ (List.mem_append_left _ (weightsAll_mem (i:=i) (d:=y.1) ?_ k hk))
      simp [hy2]))
     exact ⟨⟨cs',x⟩,g1,hx⟩
    haveI:Inhabited V:=⟨.mk 0 0 0 ⟨#[]⟩ []⟩
    obtain ⟨us,zs,hll,hp,hz⟩:=choose_row (L:=fun u x => VLies W u x ∧ x.wf) (by decide) each
    refine ⟨.mk n0 n1 n2 n3 zs,?_,V.wf_mk.2 ⟨int_wf w0,int_wf w1,float_wf w2,hs3,fun x hx => ?_⟩⟩
    ·have hV:VLies W (cells5 n0 n1 n2 n3 (some a) zs.length cap) (.mk n0 n1 n2 n3 zs):=by
      refine .mk us (by rw [hll];exact hbd) (by rw [hll];exact hlc) (fun hne => ?_) (fun j hj => (hz j hj).1)
      obtain ⟨b,off,rfl,h2,h3⟩:=hp (by rw [← hll];exact List.length_pos_iff.2 hne)
      exact ⟨b,off,rfl,h2,fun j hj m hm => h3 j (by omega) m hm⟩
     rw [hll] at hV
     exact hV
    ·obtain ⟨j,hj,rfl⟩:=List.mem_iff_getElem.1 hx
     exact (hz j hj).2
theorem open_type:∀ (fuel:Nat) (cs:List Value) (D:DataW H) (Pl:List MemPlace),DataW.trod enc Tryz.prog W 0 (fun _ => true) true fuel 64 cs = some (D,Pl) → (∀ k ∈ D.weights Tryz.prog 64,k ≤ reachBytes) → ∃ x,TLies W cs.toArray x ∧ x.wf:=by
 intro fuel
 induction fuel using Nat.strongRecOn with
 | _ fuel ih =>
  intro cs D Pl h hw
  obtain ⟨xs,n,rfl,hx,hl,hlen,hf⟩:=DataW.trod_struct Tryz.underlying64 h
  have hc5:Tryz.prog.cellsOf 64 = 2:=by kernel_rfl
  have hb64:Tryz.prog.bytesOf 64 = 32:=by kernel_rfl
  have er:reachBytes = 140737488351232:=by decide
  rw [hc5] at hl
  match cs,hl,xs,hlen with
  | [v0,v4],_,[y0,y4],_ =>
   have c0:Tryz.prog.cellsOf 3 = 1:=by kernel_rfl
   have c4:Tryz.prog.cellsOf 62 = 1:=by kernel_rfl
   have h0:DataW.trod enc Tryz.prog W 0 (fun _ => true) true n 3 [v0] = some y0:=by have:=hf 0 _ rfl;simpa [c0] using this
   have h4:DataW.trod enc Tryz.prog W 0 (fun _ => true) true n 62 [v4] = some y4:=by have:=hf 1 _ rfl;simpa [c4] using this
   obtain ⟨n0,hn0,_,w0⟩:=DataW.trod_int Tryz.underlying3 h0
   simp only [List.cons.injEq,and_true] at hn0
   subst hn0
   simp only [Prod.mk.injEq] at hx
   obtain ⟨rfl,_⟩:=hx
   have hw4:∀ k ∈ y4.1.weights Tryz.prog 62,k ≤ reachBytes:=fun k hk => hw k (by
    simp [DataW.weights,DataW.weightsEach,Tryz.underlying64]
    right
    exact hk)
   rcases DataW.trod_slice Tryz.underlying62 h4 with ⟨hcs,_⟩ | ⟨a,len,cap,elems,rest,n',rfl,hcs,hy,_,hlc,_,hel,hat,_⟩
   ·simp only [List.cons.injEq,and_true] at hcs
    subst hcs
    exact ⟨.mk n0 [],tl_leafF W n0 none 0,Ty.wf_mk.2 ⟨int_wf w0,fun x hx => by cases hx⟩⟩
   ·simp only [List.cons.injEq,and_true] at hcs
    subst hcs
    rw [hy] at hw4
    have hbd:len * 32 ≤ 140737488351232:=by
     have:=hw4 ((elems.length + rest.length) * Tryz.prog.bytesOf 64) (by simp [DataW.weights,Tryz.underlying62])
     rw [hb64,er] at this
     omega
    have each:∀ i,i < len → ∃ z:List Value × Ty,W.cells? 0 (a.add (i * 2)) 2 = some z.1 ∧ TLies W z.1.toArray z.2 ∧ z.2.wf:=by
     intro i hi
     have h5:=hat i hi
     rw [hc5] at h5
     obtain ⟨y,hy2⟩:∃ y,elems[i]? = some y:=⟨elems[i]'(by omega),List.getElem?_eq_getElem (by omega)⟩
     rw [hy2] at h5
     obtain ⟨cs',g1,g2⟩:=Option.bind_eq_some_iff.1 h5
     obtain ⟨x,hx⟩:=ih n' (by omega) cs' y.1 y.2 g2 (fun k hk => hw4 k (by
      simp only [DataW.weights,Tryz.underlying62]
      refine List.mem_cons_of_mem _ (List.mem_append_left _ (weightsAll_mem (i:=i) (d:=y.1) ?_ k hk))
      simp [hy2]))
     exact ⟨⟨cs',x⟩,g1,hx⟩
    haveI:Inhabited Ty:=⟨.mk 0 []⟩
    obtain ⟨us,zs,hll,hp,hz⟩:=choose_row (L:=fun u x => TLies W u x ∧ x.wf) (by decide) each
    refine ⟨.mk n0 zs,?_,Ty.wf_mk.2 ⟨int_wf w0,fun x hx => ?_⟩⟩
    ·have hV:TLies W (cells2 n0 (some a) zs.length cap) (.mk n0 zs):=by
      refine .mk us (by rw [hll];exact hbd) (by rw [hll];exact hlc) (fun hne => ?_) (fun j hj => (hz j hj).1)
      obtain ⟨b,off,rfl,h2,h3⟩:=hp (by rw [← hll];exact List.length_pos_iff.2 hne)
      exact ⟨b,off,rfl,h2,fun j hj m hm => h3 j (by omega) m hm⟩
     rw [hll] at hV
     exact hV
    ·obtain ⟨j,hj,rfl⟩:=List.mem_iff_getElem.1 hx
     exact (hz j hj).2
end
end Go.Proofs.YtfcblnknoljkhaaGreatDoor
