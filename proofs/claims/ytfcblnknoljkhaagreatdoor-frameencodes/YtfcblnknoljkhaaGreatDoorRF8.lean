import Derived.Test.YtfcblnknoljkhaaGreatDoorRF7S
import Derived.Test.YtfcblnknoljkhaaGreatDoorRowB
set_option maxRecDepth 100000
namespace Go.Proofs.YtfcblnknoljkhaaGreatDoor
open Go.ChangeShapes Go.WideShapes Go.ChangeAt Go.RowKit Go.Deep
section
variable {H:Type} {enc:TypeId × Value → H} {W:World}
theorem open_entry (fuel:Nat) (cs:List Value) (D:DataW H) (Pl:List MemPlace) (h:DataW.trod enc Tryz.prog W 0 (fun _ => true) true fuel 61 cs = some (D,Pl)):∃ e:Ent,cs = [.int .i64 e.at_,.int .i64 e.row,.int .i64 e.sch] ∧ Fr.i64 e.at_ ∧ Fr.i64 e.row ∧ Fr.i64 e.sch:=by
 obtain ⟨xs,n,rfl,hx,hl,hlen,hf⟩:=DataW.trod_struct Tryz.underlying61 h
 have hc3:Tryz.prog.cellsOf 61 = 3:=by kernel_rfl
 rw [hc3] at hl
 match cs,hl,xs,hlen with
 | [v0,v1,v2],_,[y0,y1,y2],_ =>
  have c0:Tryz.prog.cellsOf 2 = 1:=by kernel_rfl
  have h0:DataW.trod enc Tryz.prog W 0 (fun _ => true) true n 2 [v0] = some y0:=by have:=hf 0 _ rfl;simpa [c0] using this
  have h1:DataW.trod enc Tryz.prog W 0 (fun _ => true) true n 2 [v1] = some y1:=by have:=hf 1 _ rfl;simpa [c0] using this
  have h2:DataW.trod enc Tryz.prog W 0 (fun _ => true) true n 2 [v2] = some y2:=by have:=hf 2 _ rfl;simpa [c0] using this
  obtain ⟨n0,hn0,_,w0⟩:=DataW.trod_int Tryz.underlying2 h0
  obtain ⟨n1,hn1,_,w1⟩:=DataW.trod_int Tryz.underlying2 h1
  obtain ⟨n2,hn2,_,w2⟩:=DataW.trod_int Tryz.underlying2 h2
  simp only [List.cons.injEq,and_true] at hn0 hn1 hn2
  subst hn0 hn1 hn2
  exact ⟨⟨n0,n1,n2⟩,rfl,int_wf w0,int_wf w1,int_wf w2⟩
theorem open_index (fuel:Nat) (cs:List Value) (D:DataW H) (Pl:List MemPlace) (h:DataW.trod enc Tryz.prog W 0 (fun _ => true) true fuel 28 cs = some (D,Pl)) (hw:∀ k ∈ D.weights Tryz.prog 28,k ≤ reachBytes) :
  ∃ (x:Idx) (ep:Option Addr) (ec:Nat),cs = [.int .i64 x.at_,.int .i64 x.frames,.int .i64 x.rows,.slice ep x.entries.length ec] ∧ (Fr.i64 x.at_ ∧ Fr.i64 x.frames ∧ Fr.i64 x.rows) ∧ x.entries.length * 24 ≤ 140737488351232 ∧ x.entries.length ≤ ec ∧ Ents W ep x.entries ∧ (∀ e ∈ x.entries,Fr.i64 e.at_ ∧ Fr.i64 e.row ∧ Fr.i64 e.sch) ∧ x.entries.length ≤ Rows.uptoBulk D:=by
 obtain ⟨xs,n,rfl,hx,hl,hlen,hf⟩:=DataW.trod_struct Tryz.underlying28 h
 have hc4:Tryz.prog.cellsOf 28 = 4:=by kernel_rfl
 have hc3:Tryz.prog.cellsOf 61 = 3:=by kernel_rfl
 have hb24:Tryz.prog.bytesOf 61 = 24:=by kernel_rfl
 have er:reachBytes = 140737488351232:=by decide
 rw [hc4] at hl
 match cs,hl,xs,hlen with
 | [v0,v1,v2,v3],_,[y0,y1,y2,y3],_ =>
  have c0:Tryz.prog.cellsOf 2 = 1:=by kernel_rfl
  have c3:Tryz.prog.cellsOf 26 = 1:=by kernel_rfl
  have h0:DataW.trod enc Tryz.prog W 0 (fun _ => true) true n 2 [v0] = some y0:=by have:=hf 0 _ rfl;simpa [c0] using this
  have h1:DataW.trod enc Tryz.prog W 0 (fun _ => true) true n 2 [v1] = some y1:=by have:=hf 1 _ rfl;simpa [c0] using this
  have h2:DataW.trod enc Tryz.prog W 0 (fun _ => true) true n 2 [v2] = some y2:=by have:=hf 2 _ rfl;simpa [c0] using this
  have h3:DataW.trod enc Tryz.prog W 0 (fun _ => true) true n 26 [v3] = some y3:=by have:=hf 3 _ rfl;simpa [c3] using this
  obtain ⟨n0,hn0,_,w0⟩:=DataW.trod_int Tryz.underlying2 h0
  obtain ⟨n1,hn1,_,w1⟩:=DataW.trod_int Tryz.underlying2 h1
  obtain ⟨n2,hn2,_,w2⟩:=DataW.trod_int Tryz.underlying2 h2
  simp only [List.cons.injEq,and_true] at hn0 hn1 hn2
  subst hn0 hn1 hn2
  simp only [Prod.mk.injEq] at hx
  obtain ⟨rfl,_⟩:=hx
  have hw4:∀ k ∈ y3.1.weights Tryz.prog 26,k ≤ reachBytes:=fun k hk => hw k (by
   simp [DataW.weights,DataW.weightsEach,Tryz.underlying28]
   right;right;right
   exact hk)
  rcases DataW.trod_slice Tryz.underlying26 h3 with ⟨hcs,_⟩ | ⟨a,len,cap,elems,rest,n',rfl,hcs,hy,_,hlc,_,hel,hat,_⟩
  ·simp only [List.cons.injEq,and_true] at hcs
   subst hcs
   exact ⟨⟨n0,n1,n2,[]⟩,none,0,rfl,⟨int_wf w0,int_wf w1,int_wf w2⟩,by simp,by simp,ents_nil _ _,fun e he => (by cases he),Nat.zero_le _⟩
  ·simp only [List.cons.injEq,and_true] at hcs
   subst hcs
   rw [hy] at hw4
   have hbd:len * 24 ≤ 140737488351232:=by
    have:=hw4 ((elems.length + rest.length) * Tryz.prog.bytesOf 61) (by simp [DataW.weights,Tryz.underlying26])
    rw [hb24,er] at this
    omega
   have each:∀ i,i < len → ∃ z:List Value × Ent,W.cells? 0 (a.add (i * 3)) 3 = some z.1 ∧ (z.1.toArray = #[.int .i64 z.2.at_,.int .i64 z.2.row,.int .i64 z.2.sch] ∧ Fr.i64 z.2.at_ ∧ Fr.i64 z.2.row ∧ Fr.i64 z.2.sch):=by
    intro i hi
    have h5:=hat i hi
    rw [hc3] at h5
    obtain ⟨y,hy2⟩:∃ y,elems[i]? = some y:=⟨elems[i]'(by omega),List.getElem?_eq_getElem (by omega)⟩
    rw [hy2] at h5
    obtain ⟨cs',g1,g2⟩:=Option.bind_eq_some_iff.1 h5
    obtain ⟨x,hx1,hx2⟩:=open_entry n' cs' y.1 y.2 g2
    exact ⟨⟨cs',x⟩,g1,by rw [hx1],hx2⟩
   haveI:Inhabited Ent:=⟨⟨0,0,0⟩⟩
   obtain ⟨us,zs,hll,hp,hz⟩:=choose_row (L:=fun u (x:Ent) => u = #[.int .i64 x.at_,.int .i64 x.row,.int .i64 x.sch] ∧ Fr.i64 x.at_ ∧ Fr.i64 x.row ∧ Fr.i64 x.sch) (by decide) each
   subst hll
   refine ⟨⟨n0,n1,n2,zs⟩,some a,cap,rfl,⟨int_wf w0,int_wf w1,int_wf w2⟩,hbd,hlc,fun j hj => ?_,fun e he => ?_,?_⟩
   ·have hj':j < zs.length:=hj
    obtain ⟨b,off,rfl,h2,h3⟩:=hp (by omega)
    have h9:=h3 j hj'
    rw [(hz j hj').1] at h9
    exact ⟨b,off,rfl,h2,h9 0 (by omega),h9 1 (by omega),h9 2 (by omega)⟩
   ·obtain ⟨j,hj,rfl⟩:=List.mem_iff_getElem.1 he
    exact (hz j hj).2
   ·have hba:=bulk_all (elems.map (·.1))
    have hy1:y3.1 = .slice (elems.map (·.1)) (rest.map (·.1)):=by simpa using congrArg Prod.fst hy
    show zs.length ≤ _
    simp only [List.map_cons,List.map_nil,Rows.uptoBulk,Rows.uptoBulkAll,hy1]
    simp only [List.length_map] at hba
    omega
theorem open_frame {base:Nat} {ts:List TypeId} {ds:List (DataW H)} {j:Nat} {v:Value} {d:DataW H} {p:List MemPlace} (hv:Value.okWide Tryz.prog W .any base 30 v) (h:DataW.Trod enc Tryz.prog W 0 (fun _ => true) true 30 v d p)
  (hsz:(DataW.weightsEach Tryz.prog ts ds).all (· ≤ reachBytes) = true) (ht:ts[j]? = some 30) (hd:ds[j]? = some d) :
  ∃ (u:Array Value) (f:Fr),v = .agg u ∧ FLies W u f ∧ f.wf ∧ f.block.length ≤ Rows.uptoBulk d:=by
 obtain ⟨cs0,rfl,_⟩:=okWide_struct Tryz.underlying30 hv
 obtain ⟨fuel,hf0⟩:=h
 have hw:∀ k ∈ d.weights Tryz.prog 30,k ≤ reachBytes:=fun k hk => by
  have:=List.all_eq_true.1 hsz k (DataW.weights_mem_each ht hd k hk)
  simpa using this
 obtain ⟨cs,hcs⟩:∃ cs,cs = (Value.agg cs0).cells.toList:=⟨_,rfl⟩
 rw [← hcs] at hf0
 obtain ⟨xs,n,rfl,hx,hl,hlen,hf⟩:=DataW.trod_struct Tryz.underlying30 hf0
 have hc11:Tryz.prog.cellsOf 30 = 11:=by kernel_rfl
 have er:reachBytes = 140737488351232:=by decide
 rw [hc11] at hl
 match cs,hl,xs,hlen with
 | [v0,v1,v2,v3,v4,v5,v6,v7,v8,v9,v10],_,[y0,y1,y2,y3,y4,y5,y6,y7],_ =>
  have c0:Tryz.prog.cellsOf 3 = 1:=by kernel_rfl
  have c1:Tryz.prog.cellsOf 2 = 1:=by kernel_rfl
  have c2:Tryz.prog.cellsOf 24 = 1:=by kernel_rfl
  have c6:Tryz.prog.cellsOf 25 = 1:=by kernel_rfl
  have c7:Tryz.prog.cellsOf 28 = 4:=by kernel_rfl
  have h0:DataW.trod enc Tryz.prog W 0 (fun _ => true) true n 3 [v0] = some y0:=by have:=hf 0 _ rfl;simpa [c0] using this
  have h1:DataW.trod enc Tryz.prog W 0 (fun _ => true) true n 2 [v1] = some y1:=by have:=hf 1 _ rfl;simpa [c1] using this
  have h2:DataW.trod enc Tryz.prog W 0 (fun _ => true) true n 24 [v2] = some y2:=by have:=hf 2 _ rfl;simpa [c2] using this
  have h3:DataW.trod enc Tryz.prog W 0 (fun _ => true) true n 2 [v3] = some y3:=by have:=hf 3 _ rfl;simpa [c1] using this
  have h4:DataW.trod enc Tryz.prog W 0 (fun _ => true) true n 2 [v4] = some y4:=by have:=hf 4 _ rfl;simpa [c1] using this
  have h5:DataW.trod enc Tryz.prog W 0 (fun _ => true) true n 3 [v5] = some y5:=by have:=hf 5 _ rfl;simpa [c0] using this
  have h6:DataW.trod enc Tryz.prog W 0 (fun _ => true) true n 25 [v6] = some y6:=by have:=hf 6 _ rfl;simpa [c6] using this
  have h7:DataW.trod enc Tryz.prog W 0 (fun _ => true) true n 28 [v7,v8,v9,v10] = some y7:=by have:=hf 7 _ rfl;simpa [c7] using this
  simp only [Prod.mk.injEq] at hx
  obtain ⟨rfl,_⟩:=hx
  obtain ⟨n0,hn0,_,w0⟩:=DataW.trod_int Tryz.underlying3 h0
  obtain ⟨n1,hn1,_,w1⟩:=DataW.trod_int Tryz.underlying2 h1
  obtain ⟨n3,hn3,_,w3⟩:=DataW.trod_int Tryz.underlying2 h3
  obtain ⟨n4,hn4,_,w4⟩:=DataW.trod_int Tryz.underlying2 h4
  obtain ⟨n5,hn5,_,w5⟩:=DataW.trod_int Tryz.underlying3 h5
  simp only [List.cons.injEq,and_true] at hn0 hn1 hn3 hn4 hn5
  subst hn0 hn1 hn3 hn4 hn5
  obtain ⟨ps,cs',s,e1,b1,b2,b3,b4⟩:=open_schema n _ y2.1 y2.2 h2 (fun k hk => hw k (by
   simp [DataW.weights,DataW.weightsEach,Tryz.underlying30]
   right;right;left
   exact hk))
  have hw6:∀ k ∈ y6.1.weights Tryz.prog 25,k ≤ reachBytes:=fun k hk => hw k (by
   simp [DataW.weights,DataW.weightsEach,Tryz.underlying30]
   right;right;right;right;right;right;left
   exact hk)
  obtain ⟨x,ep,ec,e7,i1,i2,i3,i4,i5,-⟩:=open_index n _ y7.1 y7.2 h7 (fun k hk => hw k (by
   simp [DataW.weights,DataW.weightsEach,Tryz.underlying30]
   right;right;right;right;right;right;right
   exact hk))
  have hbyt:∃ (r:Option Addr) (e:Nat) (b:List UInt8),v6 = .slice r b.length e ∧ At W r b ∧ b.length ≤ 140737488351232 ∧ b.length ≤ e ∧ Long y6.1 b.length:=by
   have hsl:=DataW.trod_slice Tryz.underlying25 h6
   rcases hsl with ⟨hcs2,_⟩ | ⟨a,len,cap,elems,rest,n',_,hcs2,hy,_,hlc,_,hel,_,_⟩
   ·simp only [List.cons.injEq,and_true] at hcs2
    subst hcs2
    exact ⟨none,0,[],rfl,.inl rfl,by simp,by simp,.inl rfl⟩
   ·simp only [List.cons.injEq,and_true] at hcs2
    subst hcs2
    obtain ⟨b,hb1,hb2,hb3,_,hb4⟩:=opened (enc:=enc) (W:=W) (d0:=y6.1) (p:=y6.2) ⟨n,by simpa [Value.cells] using h6⟩
    refine ⟨some a,cap,b,by rw [hb1],hb2,?_,by omega,hb4⟩
    have hy1:y6.1 = .slice (elems.map (·.1)) (rest.map (·.1)):=by simpa using congrArg Prod.fst hy
    rw [hy1] at hw6
    have:=hw6 (((elems.map (·.1)).length + (rest.map (·.1)).length) * Tryz.prog.bytesOf 5) (by simp [DataW.weights,Tryz.underlying25])
    rw [bytes8,er] at this
    simp only [List.length_map] at this
    omega
  obtain ⟨r,e,b,e3,g1,g2,g3,g4⟩:=hbyt
  simp only [List.cons.injEq,and_true] at e1 e7
  obtain ⟨rfl,rfl,rfl,rfl⟩:=e7
  subst e1 e3
  refine ⟨cs0,⟨n0,n1,s,n3,n4,n5,b,x⟩,rfl,⟨ps,cs',r,e,ep,ec,?_,b1,b2,b3,g2,g3,g1,i2,i3,i4⟩,⟨int_wf w0,int_wf w1,b4,int_wf w3,int_wf w4,int_wf w5,i1,i5⟩,?_⟩
  ·have e':cs0.toList = [.int .i64 n0,.int .i64 n1,.slice ps s.length cs',.int .i64 n3,.int .i64 n4,.int .i64 n5,.slice r b.length e,.int .i64 x.at_,.int .i64 x.frames,.int .i64 x.rows,.slice ep x.entries.length ec]:=by simpa [Value.cells] using hcs.symm
   rw [← Array.toArray_toList (xs:=cs0),e']
   rfl
  ·have hlb:=long_bulk g4
   show b.length ≤ _
   simp only [List.map_cons,List.map_nil,Rows.uptoBulk,Rows.uptoBulkAll]
   omega
end
end Go.Proofs.YtfcblnknoljkhaaGreatDoor
