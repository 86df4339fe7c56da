import Derived.Test.YtlgfdgdlaahpfaaGreatDoorRF8
import Derived.Test.YtlgfdgdlaahpfaaGreatDoorA2
set_option maxRecDepth 100000
namespace Go.Proofs.YtlgfdgdlaahpfaaGreatDoor
open Go.ChangeShapes Go.WideShapes Go.ChangeAt Go.RowKit Go.Deep
section
variable {H:Type} {enc:TypeId×Value->H} {W:World}
theorem kG(fuel:Nat)(cs:List Value)(d:DataW H)(Pl:List MemPlace)(h:DataW.trod enc Tryz.prog W 0 (fun _=>true) true fuel 36 cs=some (d,Pl))(hw:∀k∈d.weights Tryz.prog 36,k<=reachBytes):
  ∃(f:Fr) (sp:OA) (sc:Nat) (bp:OA) (bc:Nat) (ep:OA) (ec:Nat),cs=[.int .i64 f.kind,.int .i64 f.number,.slice sp f.cols.length sc,.int .i64 f.seq,.int .i64 f.first,.int .i64 f.rows,.slice bp f.block.length bc,.int .i64 f.index.at_,.int .i64 f.index.frames,.int .i64 f.index.rows,.slice ep f.index.entries.length ec]∧aB W (av f.kind f.number sp f.cols.length sc f.seq f.first f.rows bp f.block.length bc f.index.at_ f.index.frames f.index.rows ep f.index.entries.length ec) f∧f.wf∧f.block.length<=140737488351232:=by
 obtain⟨xs,n,rfl,hx,hl,hlen,hf⟩:=DataW.trod_struct Tryz.underlying36 h
 have hc11:Tryz.prog.cellsOf 36=11:=by kernel_rfl
 have er:reachBytes=140737488351232:=by decide
 rw[hc11] at hl
 match cs,hl,xs,hlen with
 | [v0,v1,v2,v3,v4,v5,v6,v7,v8,v9,v10],_,[y0,y1,y2,y3,y4,y5,y6,y7],_=>
  have c0:Tryz.prog.cellsOf 3=1:=by kernel_rfl
  have c1:Tryz.prog.cellsOf 2=1:=by kernel_rfl
  have c2:Tryz.prog.cellsOf 30=1:=by kernel_rfl
  have c6:Tryz.prog.cellsOf 31=1:=by kernel_rfl
  have c7:Tryz.prog.cellsOf 34=4:=by kernel_rfl
  have h0:DataW.trod enc Tryz.prog W 0 (fun _=>true) true n 3 [v0]=some y0:=by have:=hf 0 _ rfl;simpa[c0] using this
  have h1:DataW.trod enc Tryz.prog W 0 (fun _=>true) true n 2 [v1]=some y1:=by have:=hf 1 _ rfl;simpa[c1] using this
  have h2:DataW.trod enc Tryz.prog W 0 (fun _=>true) true n 30 [v2]=some y2:=by have:=hf 2 _ rfl;simpa[c2] using this
  have h3:DataW.trod enc Tryz.prog W 0 (fun _=>true) true n 2 [v3]=some y3:=by have:=hf 3 _ rfl;simpa[c1] using this
  have h4:DataW.trod enc Tryz.prog W 0 (fun _=>true) true n 2 [v4]=some y4:=by have:=hf 4 _ rfl;simpa[c1] using this
  have h5:DataW.trod enc Tryz.prog W 0 (fun _=>true) true n 3 [v5]=some y5:=by have:=hf 5 _ rfl;simpa[c0] using this
  have h6:DataW.trod enc Tryz.prog W 0 (fun _=>true) true n 31 [v6]=some y6:=by have:=hf 6 _ rfl;simpa[c6] using this
  have h7:DataW.trod enc Tryz.prog W 0 (fun _=>true) true n 34 [v7,v8,v9,v10]=some y7:=by have:=hf 7 _ rfl;simpa[c7] using this
  simp only[Prod.mk.injEq] at hx
  obtain⟨rfl,_⟩:=hx
  obtain⟨n0,hn0,_,w0⟩:=DataW.trod_int Tryz.underlying3 h0
  obtain⟨n1,hn1,_,w1⟩:=DataW.trod_int Tryz.underlying2 h1
  obtain⟨n3,hn3,_,w3⟩:=DataW.trod_int Tryz.underlying2 h3
  obtain⟨n4,hn4,_,w4⟩:=DataW.trod_int Tryz.underlying2 h4
  obtain⟨n5,hn5,_,w5⟩:=DataW.trod_int Tryz.underlying3 h5
  simp only[List.cons.injEq,and_true] at hn0 hn1 hn3 hn4 hn5
  subst hn0 hn1 hn3 hn4 hn5
  obtain⟨ps,cs',s,e1,b1,b2,b3,b4⟩:=kF n _ y2.1 y2.2 h2 (fun k hk=>hw k (by
   simp[DataW.weights,DataW.weightsEach,Tryz.underlying36]
   right;right;left
   exact hk))
  have hw6:∀k∈y6.1.weights Tryz.prog 31,k<=reachBytes:=fun k hk=>hw k (by
   simp[DataW.weights,DataW.weightsEach,Tryz.underlying36]
   right;right;right;right;right;right;left
   exact hk)
  obtain⟨x,ep,ec,e7,i1,i2,i3,i4,i5,-⟩:=mp n _ y7.1 y7.2 h7 (fun k hk=>hw k (by
   simp[DataW.weights,DataW.weightsEach,Tryz.underlying36]
   right;right;right;right;right;right;right
   exact hk))
  have hbyt:∃(r:OA) (e:Nat) (b:L8),v6=.slice r b.length e∧At W r b∧b.length<=140737488351232∧b.length<=e∧uW y6.1 b.length:=by
   have hsl:=DataW.trod_slice Tryz.underlying31 h6
   rcases hsl with ⟨hcs2,_⟩ | ⟨a,len,cap,elems,rest,n',_,hcs2,hy,_,hlc,_,hel,_,_⟩
   ·simp only[List.cons.injEq,and_true] at hcs2
    subst hcs2
    exact⟨none,0,[],rfl,.inl rfl,by simp,by simp,.inl rfl⟩
   ·simp only[List.cons.injEq,and_true] at hcs2
    subst hcs2
    obtain⟨b,hb1,hb2,hb3,_,hb4⟩:=opened (enc:=enc) (W:=W) (d0:=y6.1) (p:=y6.2) ⟨n,by simpa[Value.cells] using h6⟩
    refine⟨some a,cap,b,by rw[hb1],hb2,?_,by omega,hb4⟩
    have hy1:y6.1=.slice (elems.map (·.1)) (rest.map (·.1)):=by simpa using congrArg Prod.fst hy
    rw[hy1] at hw6
    have:=hw6 (((elems.map (·.1)).length+(rest.map (·.1)).length)*Tryz.prog.bytesOf 5) (by simp[DataW.weights,Tryz.underlying31])
    rw[ud,er] at this
    simp only[List.length_map] at this
    omega
  obtain⟨r,e,b,e3,g1,g2,g3,g4⟩:=hbyt
  simp only[List.cons.injEq,and_true] at e1 e7
  obtain⟨rfl,rfl,rfl,rfl⟩:=e7
  subst e1 e3
  refine⟨⟨n0,n1,s,n3,n4,n5,b,x⟩,ps,cs',r,e,ep,ec,rfl,⟨ps,cs',r,e,ep,ec,rfl,b1,b2,b3,g2,g3,g1,i2,i3,i4⟩,⟨bm w0,bm w1,b4,bm w3,bm w4,bm w5,i1,i5⟩,g2⟩
theorem mm(fuel:Nat)(cs:List Value)(d:DataW H)(Pl:List MemPlace)(h:DataW.trod enc Tryz.prog W 0 (fun _=>true) true fuel 38 cs=some (d,Pl))(hw:∀k∈d.weights Tryz.prog 38,k<=reachBytes):
  ∃(q:Fr×Int) (sp:OA) (sc:Nat) (bp:OA) (bc:Nat) (ep:OA) (ec:Nat),cs=[.int .i64 q.1.kind,.int .i64 q.1.number,.slice sp q.1.cols.length sc,.int .i64 q.1.seq,.int .i64 q.1.first,.int .i64 q.1.rows,.slice bp q.1.block.length bc,.int .i64 q.1.index.at_,.int .i64 q.1.index.frames,.int .i64 q.1.index.rows,.slice ep q.1.index.entries.length ec,.int .i64 q.2]∧aB W (av q.1.kind q.1.number sp q.1.cols.length sc q.1.seq q.1.first q.1.rows bp q.1.block.length bc q.1.index.at_ q.1.index.frames q.1.index.rows ep q.1.index.entries.length ec) q.1∧q.1.wf∧q.1.block.length<=140737488351232:=by
 obtain⟨xs,n,rfl,hx,hl,hlen,hf⟩:=DataW.trod_struct Tryz.underlying38 h
 have hc12:Tryz.prog.cellsOf 38=12:=by kernel_rfl
 rw[hc12] at hl
 match cs,hl,xs,hlen with
 | [v0,v1,v2,v3,v4,v5,v6,v7,v8,v9,v10,v11],_,[y0,y1],_=>
  have c0:Tryz.prog.cellsOf 3=1:=by kernel_rfl
  have c1:Tryz.prog.cellsOf 36=11:=by kernel_rfl
  have h0:DataW.trod enc Tryz.prog W 0 (fun _=>true) true n 36 [v0,v1,v2,v3,v4,v5,v6,v7,v8,v9,v10]=some y0:=by have:=hf 0 _ rfl;simpa[c1] using this
  have h1:DataW.trod enc Tryz.prog W 0 (fun _=>true) true n 3 [v11]=some y1:=by have:=hf 1 _ rfl;simpa[c0,c1] using this
  simp only[Prod.mk.injEq] at hx
  obtain⟨rfl,_⟩:=hx
  obtain⟨n1,hn1,_,w1⟩:=DataW.trod_int Tryz.underlying3 h1
  simp only[List.cons.injEq,and_true] at hn1
  subst hn1
  obtain⟨f,sp,sc,bp,bc,ep,ec,e1,e2,e3,e4⟩:=kG n _ y0.1 y0.2 h0 (fun k hk=>hw k (by
   simp[DataW.weights,DataW.weightsEach,Tryz.underlying38]
   left
   exact hk))
  simp only[List.cons.injEq,and_true] at e1
  obtain⟨rfl,rfl,rfl,rfl,rfl,rfl,rfl,rfl,rfl,rfl,rfl⟩:=e1
  exact⟨(f,n1),sp,sc,bp,bc,ep,ec,rfl,e2,e3,e4⟩
theorem dG{ts:List TypeId}{ds:List (DataW H)}{j:Nat}{a0:OA}{len cap:Nat}{d:DataW H}{p:List MemPlace}(h:DataW.Trod enc Tryz.prog W 0 (fun _=>true) true 22 (.slice a0 len cap) d p)(hsz:(DataW.weightsEach Tryz.prog ts ds).all (·<=reachBytes)=true)(ht:ts[j]?=some 22)(hd:ds[j]?=some d):
  ∃l:List (Fr×Int),len=l.length∧Pls W a0 l∧l.length*144<=140737488351232∧∀q∈l,q.1.wf∧q.1.block.length<=140737488351232:=by
 obtain⟨fuel,hf⟩:=h
 have hw:∀k∈d.weights Tryz.prog 22,k<=reachBytes:=fun k hk=>by
  have:=List.all_eq_true.1 hsz k (DataW.weights_mem_each ht hd k hk)
  simpa using this
 have hc12:Tryz.prog.cellsOf 38=12:=by kernel_rfl
 have hb144:Tryz.prog.bytesOf 38=144:=by kernel_rfl
 have er:reachBytes=140737488351232:=by decide
 rcases DataW.trod_slice Tryz.underlying22 (by simpa[Value.cells] using hf) with ⟨hcs,_⟩ | ⟨a,len',cap',elems,rest,n',rfl,hcs,hy,_,hlc,_,hel,hat,_⟩
 ·simp only[List.cons.injEq,and_true,Value.slice.injEq] at hcs
  obtain⟨rfl,rfl,rfl⟩:=hcs
  exact⟨[],rfl,fun j hj=>(by simp at hj),by simp,fun q hq=>(by cases hq)⟩
 ·simp only[List.cons.injEq,and_true,Value.slice.injEq] at hcs
  obtain⟨rfl,rfl,rfl⟩:=hcs
  have hy1:d=.slice (elems.map (·.1)) (rest.map (·.1)):=by simpa using congrArg Prod.fst hy
  rw[hy1] at hw
  have hbd:len*144<=140737488351232:=by
   have:=hw (((elems.map (·.1)).length+(rest.map (·.1)).length)*Tryz.prog.bytesOf 38) (by simp[DataW.weights,Tryz.underlying22])
   rw[hb144,er] at this
   simp only[List.length_map] at this
   omega
  have each:∀i,i<len->∃z:List Value×(Fr×Int),W.cells? 0 (a.add (i*12)) 12=some z.1∧∃sp sc bp bc ep ec,z.1.toArray=([.int .i64 z.2.1.kind,.int .i64 z.2.1.number,.slice sp z.2.1.cols.length sc,.int .i64 z.2.1.seq,.int .i64 z.2.1.first,.int .i64 z.2.1.rows,.slice bp z.2.1.block.length bc,.int .i64 z.2.1.index.at_,.int .i64 z.2.1.index.frames,.int .i64 z.2.1.index.rows,.slice ep z.2.1.index.entries.length ec,.int .i64 z.2.2]:List Value).toArray∧aB W (av z.2.1.kind z.2.1.number sp z.2.1.cols.length sc z.2.1.seq z.2.1.first z.2.1.rows bp z.2.1.block.length bc z.2.1.index.at_ z.2.1.index.frames z.2.1.index.rows ep z.2.1.index.entries.length ec) z.2.1∧z.2.1.wf∧z.2.1.block.length<=140737488351232:=by
   intro i hi
   have h5:=hat i hi
   rw[hc12] at h5
   obtain⟨y,hy2⟩:∃y,elems[i]?=some y:=⟨elems[i]'(by omega),List.getElem?_eq_getElem (by omega)⟩
   rw[hy2] at h5
   obtain⟨cs',g1,g2⟩:=Option.bind_eq_some_iff.1 h5
   obtain⟨q,sp,sc,bp,bc,ep,ec,k1,k2,k3,k4⟩:=mm n' cs' y.1 y.2 g2 (fun k hk=>hw k (by
    simp only[DataW.weights,Tryz.underlying22]
    refine List.mem_cons_of_mem _ (List.mem_append_left _ (bH (i:=i) (d:=y.1) ?_ k hk))
    simp[hy2]))
   exact⟨⟨cs',q⟩,g1,sp,sc,bp,bc,ep,ec,by rw[k1],k2,k3,k4⟩
  haveI:Inhabited (Fr×Int):=⟨(Fr0,0)⟩
  obtain⟨us,zs,hll,hp,hz⟩:=cZ (L:=fun u (x:Fr×Int)=>∃sp sc bp bc ep ec,u=([.int .i64 x.1.kind,.int .i64 x.1.number,.slice sp x.1.cols.length sc,.int .i64 x.1.seq,.int .i64 x.1.first,.int .i64 x.1.rows,.slice bp x.1.block.length bc,.int .i64 x.1.index.at_,.int .i64 x.1.index.frames,.int .i64 x.1.index.rows,.slice ep x.1.index.entries.length ec,.int .i64 x.2]:List Value).toArray∧aB W (av x.1.kind x.1.number sp x.1.cols.length sc x.1.seq x.1.first x.1.rows bp x.1.block.length bc x.1.index.at_ x.1.index.frames x.1.index.rows ep x.1.index.entries.length ec) x.1∧x.1.wf∧x.1.block.length<=140737488351232) (by decide) each
  subst hll
  refine⟨zs,rfl,fun j hj=>?_,hbd,fun q hq=>?_⟩
  ·obtain⟨b,off,rfl,h2,h3⟩:=hp (by omega)
   obtain⟨sp,sc,bp,bc,ep,ec,e1,e2,-,-⟩:=hz j hj
   have h9:=h3 j hj
   rw[e1] at h9
   exact⟨b,off,rfl,sp,sc,bp,bc,ep,ec,e2,h9 0 (by omega),h9 1 (by omega),h9 2 (by omega),h9 3 (by omega),h9 4 (by omega),h9 5 (by omega),h9 6 (by omega),h9 7 (by omega),h9 8 (by omega),h9 9 (by omega),h9 10 (by omega),h9 11 (by omega)⟩
  ·obtain⟨j,hj,rfl⟩:=List.mem_iff_getElem.1 hq
   obtain⟨sp,sc,bp,bc,ep,ec,-,-,e3,e4⟩:=hz j hj
   exact⟨e3,e4⟩
end
end Go.Proofs.YtlgfdgdlaahpfaaGreatDoor
