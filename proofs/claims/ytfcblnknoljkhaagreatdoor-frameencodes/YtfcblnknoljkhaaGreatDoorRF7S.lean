import Derived.Test.YtfcblnknoljkhaaGreatDoorRF7
set_option maxRecDepth 100000
namespace Go.Proofs.YtfcblnknoljkhaaGreatDoor
open Go.ChangeShapes Go.WideShapes Go.ChangeAt Go.RowKit Go.Deep
section
variable {H:Type} {enc:TypeId × Value → H} {W:World}
theorem open_col (fuel:Nat) (cs:List Value) (D:DataW H) (Pl:List MemPlace) (h:DataW.trod enc Tryz.prog W 0 (fun _ => true) true fuel 70 cs = some (D,Pl)) (hw:∀ k ∈ D.weights Tryz.prog 70,k ≤ reachBytes):∃ x,CLies W cs.toArray x ∧ x.wf:=by
 obtain ⟨xs,n,rfl,hx,hl,hlen,hf⟩:=DataW.trod_struct Tryz.underlying70 h
 have hc5:Tryz.prog.cellsOf 70 = 9:=by kernel_rfl
 have er:reachBytes = 140737488351232:=by decide
 rw [hc5] at hl
 match cs,hl,xs,hlen with
 | [v0,v1,v2,v3,v4,v5,v6,v7,v8],_,[y0,y1,y2,y3],_ =>
  have c0:Tryz.prog.cellsOf 9 = 1:=by kernel_rfl
  have c1:Tryz.prog.cellsOf 64 = 2:=by kernel_rfl
  have c2:Tryz.prog.cellsOf 4 = 1:=by kernel_rfl
  have c3:Tryz.prog.cellsOf 68 = 5:=by kernel_rfl
  have h0:DataW.trod enc Tryz.prog W 0 (fun _ => true) true n 9 [v0] = some y0:=by have:=hf 0 _ rfl;simpa [c0] using this
  have h1:DataW.trod enc Tryz.prog W 0 (fun _ => true) true n 64 [v1,v2] = some y1:=by have:=hf 1 _ rfl;simpa [c1] using this
  have h2:DataW.trod enc Tryz.prog W 0 (fun _ => true) true n 4 [v3] = some y2:=by have:=hf 2 _ rfl;simpa [c2] using this
  have h3:DataW.trod enc Tryz.prog W 0 (fun _ => true) true n 68 [v4,v5,v6,v7,v8] = some y3:=by have:=hf 3 _ rfl;simpa [c3] using this
  obtain ⟨n0,hn0,hy0,_⟩:=DataW.trod_string Tryz.underlying9 h0
  obtain ⟨n3,hn3,_⟩:=DataW.trod_bool Tryz.underlying4 h2
  simp only [List.cons.injEq,and_true] at hn0 hn3
  subst hn0 hn3
  simp only [Prod.mk.injEq] at hx
  obtain ⟨rfl,_⟩:=hx
  have hs0:n0.size ≤ 140737488351232:=by
   have:=hw n0.data.toList.length (by
    simp [DataW.weights,DataW.weightsEach,Tryz.underlying70,hy0])
   rw [er] at this
   simpa using this
  obtain ⟨ty,hty,wty⟩:=open_type n _ y1.1 y1.2 h1 (fun k hk => hw k (by
   simp [DataW.weights,DataW.weightsEach,Tryz.underlying70]
   right;left
   exact hk))
  obtain ⟨dv,hdv,wdv⟩:=open_value n _ y3.1 y3.2 h3 (fun k hk => hw k (by
   simp [DataW.weights,DataW.weightsEach,Tryz.underlying70]
   right;right;right
   exact hk))
  obtain ⟨k,p,c,ts,_,e1,rfl,_⟩:=hty.inv
  obtain ⟨vk,vi,vb,vt,vp,vc,vs,_,e2,rfl,_⟩:=hdv.inv
  simp only [cells2] at e1
  simp only [cells5] at e2
  obtain ⟨rfl,rfl⟩:=e1
  obtain ⟨rfl,rfl,rfl,rfl,rfl⟩:=e2
  exact ⟨⟨n0,.mk k ts,n3,.mk vk vi vb vt vs⟩,⟨k,p,ts.length,c,vk,vi,vb,vt,vp,vs.length,vc,rfl,hty,hdv⟩,hs0,wty,wdv⟩
theorem open_cols {a:Addr} {len:Nat} (each:∀ i,i < len → ∃ z:List Value × Col,W.cells? 0 (a.add (i * 9)) 9 = some z.1 ∧ CLies W z.1.toArray z.2 ∧ z.2.wf):∃ s:List Col,s.length = len ∧ Cols W (some a) s ∧ ∀ x ∈ s,x.wf:=by
 haveI:Inhabited Col:=⟨⟨⟨#[]⟩,.mk 0 [],false,.mk 0 0 0 ⟨#[]⟩ []⟩⟩
 obtain ⟨us,zs,hll,hp,hz⟩:=choose_row (L:=fun u x => CLies W u x ∧ x.wf) (by decide) each
 refine ⟨zs,hll,fun j hj => ?_,fun x hx => ?_⟩
 ·obtain ⟨b,off,rfl,h2,h3⟩:=hp (by omega)
  refine ⟨us j,(hz j hj).1,?_⟩
  obtain ⟨k,tp,tn,tc,vk,vi,vb,vt,vp,vn,vc,g1,g2,g3⟩:=(hz j hj).1.out
  have h9:∀ m,m < 9 → W.cell? ⟨b,off + j * 9 + m,none⟩ = (cells9 zs[j].name k tp tn tc zs[j].has vk vi vb vt vp vn vc)[m]?:=fun m hm => by rw [h3 j (by omega) m hm,g1]
  exact ⟨b,off,_,k,tp,tn,tc,_,vk,vi,vb,vt,vp,vn,vc,rfl,h2,g1,h9 0 (by decide),h9 1 (by decide),h9 2 (by decide),h9 3 (by decide),h9 4 (by decide),h9 5 (by decide),h9 6 (by decide),h9 7 (by decide),h9 8 (by decide)⟩
 ·obtain ⟨j,hj,rfl⟩:=List.mem_iff_getElem.1 hx
  exact (hz j hj).2
theorem open_schema (fuel:Nat) (cs:List Value) (D:DataW H) (Pl:List MemPlace) (h:DataW.trod enc Tryz.prog W 0 (fun _ => true) true fuel 24 cs = some (D,Pl)) (hw:∀ k ∈ D.weights Tryz.prog 24,k ≤ reachBytes):∃ (p:Option Addr) (c:Nat) (s:List Col),cs = [.slice p s.length c] ∧ s.length * 120 ≤ 140737488351232 ∧ s.length ≤ c ∧ Cols W p s ∧ ∀ x ∈ s,x.wf:=by
 obtain ⟨xs,n,rfl,hx,hl,hlen,hf⟩:=DataW.trod_struct Tryz.underlying24 h
 have hc1:Tryz.prog.cellsOf 24 = 1:=by kernel_rfl
 have hc9:Tryz.prog.cellsOf 70 = 9:=by kernel_rfl
 have hb120:Tryz.prog.bytesOf 70 = 120:=by kernel_rfl
 have er:reachBytes = 140737488351232:=by decide
 rw [hc1] at hl
 match cs,hl,xs,hlen with
 | [v0],_,[y0],_ =>
  have c0:Tryz.prog.cellsOf 22 = 1:=by kernel_rfl
  have h0:DataW.trod enc Tryz.prog W 0 (fun _ => true) true n 22 [v0] = some y0:=by have:=hf 0 _ rfl;simpa [c0] using this
  simp only [Prod.mk.injEq] at hx
  obtain ⟨rfl,_⟩:=hx
  have hw4:∀ k ∈ y0.1.weights Tryz.prog 22,k ≤ reachBytes:=fun k hk => hw k (by
   simp [DataW.weights,DataW.weightsEach,Tryz.underlying24]
   exact hk)
  rcases DataW.trod_slice Tryz.underlying22 h0 with ⟨hcs,_⟩ | ⟨a,len,cap,elems,rest,n',rfl,hcs,hy,_,hlc,_,hel,hat,_⟩
  ·simp only [List.cons.injEq,and_true] at hcs
   subst hcs
   exact ⟨none,0,[],rfl,by decide,Nat.le_refl _,fun j hj => absurd hj (Nat.not_lt_zero _),fun x hx => by cases hx⟩
  ·simp only [List.cons.injEq,and_true] at hcs
   subst hcs
   rw [hy] at hw4
   have hbd:len * 120 ≤ 140737488351232:=by
    have:=hw4 ((elems.length + rest.length) * Tryz.prog.bytesOf 70) (by simp [DataW.weights,Tryz.underlying22])
    rw [hb120,er] at this
    omega
   obtain ⟨s,h1,h2,h3⟩:=open_cols (W:=W) (a:=a) (len:=len) (fun i hi => by
    have h5:=hat i hi
    rw [hc9] at h5
    obtain ⟨y,hy2⟩:∃ y,elems[i]? = some y:=⟨elems[i]'(by omega),List.getElem?_eq_getElem (by omega)⟩
    rw [hy2] at h5
    obtain ⟨cs',g1,g2⟩:=Option.bind_eq_some_iff.1 h5
    obtain ⟨x,hx⟩:=open_col n' cs' y.1 y.2 g2 (fun k hk => hw4 k (by
     simp only [DataW.weights,Tryz.underlying22]
     refine List.mem_cons_of_mem _ (List.mem_append_left _ (weightsAll_mem (i:=i) (d:=y.1) ?_ k hk))
     simp [hy2]))
    exact ⟨⟨cs',x⟩,g1,hx⟩)
   subst h1
   exact ⟨some a,cap,s,rfl,hbd,hlc,h2,h3⟩
end
end Go.Proofs.YtfcblnknoljkhaaGreatDoor
