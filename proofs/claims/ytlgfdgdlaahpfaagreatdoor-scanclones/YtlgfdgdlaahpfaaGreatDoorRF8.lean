import Derived.Test.YtlgfdgdlaahpfaaGreatDoorA9
import Derived.Test.YtlgfdgdlaahpfaaGreatDoorRowB
set_option maxRecDepth 100000
namespace Go.Proofs.YtlgfdgdlaahpfaaGreatDoor
open Go.ChangeShapes Go.WideShapes Go.ChangeAt Go.RowKit Go.Deep
section
variable {H:Type} {enc:TypeId×Value->H} {W:World}
theorem mq(fuel:Nat)(cs:List Value)(D:DataW H)(Pl:List MemPlace)(h:DataW.trod enc Tryz.prog W 0 (fun _=>true) true fuel 64 cs=some (D,Pl)):∃e:Ent,cs=[.int .i64 e.at_,.int .i64 e.row,.int .i64 e.sch]∧Fr.i64 e.at_∧Fr.i64 e.row∧Fr.i64 e.sch:=by
 obtain⟨xs,n,rfl,hx,hl,hlen,hf⟩:=DataW.trod_struct Tryz.underlying64 h
 have hc3:Tryz.prog.cellsOf 64=3:=by kernel_rfl
 rw[hc3] at hl
 match cs,hl,xs,hlen with
 | [v0,v1,v2],_,[y0,y1,y2],_=>
  have c0:Tryz.prog.cellsOf 2=1:=by kernel_rfl
  have h0:DataW.trod enc Tryz.prog W 0 (fun _=>true) true n 2 [v0]=some y0:=by have:=hf 0 _ rfl;simpa[c0] using this
  have h1:DataW.trod enc Tryz.prog W 0 (fun _=>true) true n 2 [v1]=some y1:=by have:=hf 1 _ rfl;simpa[c0] using this
  have h2:DataW.trod enc Tryz.prog W 0 (fun _=>true) true n 2 [v2]=some y2:=by have:=hf 2 _ rfl;simpa[c0] using this
  obtain⟨n0,hn0,_,w0⟩:=DataW.trod_int Tryz.underlying2 h0
  obtain⟨n1,hn1,_,w1⟩:=DataW.trod_int Tryz.underlying2 h1
  obtain⟨n2,hn2,_,w2⟩:=DataW.trod_int Tryz.underlying2 h2
  simp only[List.cons.injEq,and_true] at hn0 hn1 hn2
  subst hn0 hn1 hn2
  exact⟨⟨n0,n1,n2⟩,rfl,bm w0,bm w1,bm w2⟩
theorem mp(fuel:Nat)(cs:List Value)(D:DataW H)(Pl:List MemPlace)(h:DataW.trod enc Tryz.prog W 0 (fun _=>true) true fuel 34 cs=some (D,Pl))(hw:∀k∈D.weights Tryz.prog 34,k<=reachBytes):
  ∃(x:Idx) (ep:OA) (ec:Nat),cs=[.int .i64 x.at_,.int .i64 x.frames,.int .i64 x.rows,.slice ep x.entries.length ec]∧(Fr.i64 x.at_∧Fr.i64 x.frames∧Fr.i64 x.rows)∧x.entries.length*24<=140737488351232∧x.entries.length<=ec∧cQ W ep x.entries∧(∀e∈x.entries,Fr.i64 e.at_∧Fr.i64 e.row∧Fr.i64 e.sch)∧x.entries.length<=Rows.uptoBulk D:=by
 obtain⟨xs,n,rfl,hx,hl,hlen,hf⟩:=DataW.trod_struct Tryz.underlying34 h
 have hc4:Tryz.prog.cellsOf 34=4:=by kernel_rfl
 have hc3:Tryz.prog.cellsOf 64=3:=by kernel_rfl
 have hb24:Tryz.prog.bytesOf 64=24:=by kernel_rfl
 have er:reachBytes=140737488351232:=by decide
 rw[hc4] at hl
 match cs,hl,xs,hlen with
 | [v0,v1,v2,v3],_,[y0,y1,y2,y3],_=>
  have c0:Tryz.prog.cellsOf 2=1:=by kernel_rfl
  have c3:Tryz.prog.cellsOf 32=1:=by kernel_rfl
  have h0:DataW.trod enc Tryz.prog W 0 (fun _=>true) true n 2 [v0]=some y0:=by have:=hf 0 _ rfl;simpa[c0] using this
  have h1:DataW.trod enc Tryz.prog W 0 (fun _=>true) true n 2 [v1]=some y1:=by have:=hf 1 _ rfl;simpa[c0] using this
  have h2:DataW.trod enc Tryz.prog W 0 (fun _=>true) true n 2 [v2]=some y2:=by have:=hf 2 _ rfl;simpa[c0] using this
  have h3:DataW.trod enc Tryz.prog W 0 (fun _=>true) true n 32 [v3]=some y3:=by have:=hf 3 _ rfl;simpa[c3] using this
  obtain⟨n0,hn0,_,w0⟩:=DataW.trod_int Tryz.underlying2 h0
  obtain⟨n1,hn1,_,w1⟩:=DataW.trod_int Tryz.underlying2 h1
  obtain⟨n2,hn2,_,w2⟩:=DataW.trod_int Tryz.underlying2 h2
  simp only[List.cons.injEq,and_true] at hn0 hn1 hn2
  subst hn0 hn1 hn2
  simp only[Prod.mk.injEq] at hx
  obtain⟨rfl,_⟩:=hx
  have hw4:∀k∈y3.1.weights Tryz.prog 32,k<=reachBytes:=fun k hk=>hw k (by
   simp[DataW.weights,DataW.weightsEach,Tryz.underlying34]
   right;right;right
   exact hk)
  rcases DataW.trod_slice Tryz.underlying32 h3 with ⟨hcs,_⟩ | ⟨a,len,cap,elems,rest,n',rfl,hcs,hy,_,hlc,_,hel,hat,_⟩
  ·simp only[List.cons.injEq,and_true] at hcs
   subst hcs
   exact⟨⟨n0,n1,n2,[]⟩,none,0,rfl,⟨bm w0,bm w1,bm w2⟩,by simp,by simp,ee _ _,fun e he=>(by cases he),Nat.zero_le _⟩
  ·simp only[List.cons.injEq,and_true] at hcs
   subst hcs
   rw[hy] at hw4
   have hbd:len*24<=140737488351232:=by
    have:=hw4 ((elems.length+rest.length)*Tryz.prog.bytesOf 64) (by simp[DataW.weights,Tryz.underlying32])
    rw[hb24,er] at this
    omega
   have each:∀i,i<len->∃z:List Value×Ent,W.cells? 0 (a.add (i*3)) 3=some z.1∧(z.1.toArray=#[.int .i64 z.2.at_,.int .i64 z.2.row,.int .i64 z.2.sch]∧Fr.i64 z.2.at_∧Fr.i64 z.2.row∧Fr.i64 z.2.sch):=by
    intro i hi
    have h5:=hat i hi
    rw[hc3] at h5
    obtain⟨y,hy2⟩:∃y,elems[i]?=some y:=⟨elems[i]'(by omega),List.getElem?_eq_getElem (by omega)⟩
    rw[hy2] at h5
    obtain⟨cs',g1,g2⟩:=Option.bind_eq_some_iff.1 h5
    obtain⟨x,hx1,hx2⟩:=mq n' cs' y.1 y.2 g2
    exact⟨⟨cs',x⟩,g1,by rw[hx1],hx2⟩
   haveI:Inhabited Ent:=⟨⟨0,0,0⟩⟩
   obtain⟨us,zs,hll,hp,hz⟩:=cZ (L:=fun u (x:Ent)=>u=#[.int .i64 x.at_,.int .i64 x.row,.int .i64 x.sch]∧Fr.i64 x.at_∧Fr.i64 x.row∧Fr.i64 x.sch) (by decide) each
   subst hll
   refine⟨⟨n0,n1,n2,zs⟩,some a,cap,rfl,⟨bm w0,bm w1,bm w2⟩,hbd,hlc,fun j hj=>?_,fun e he=>?_,?_⟩
   ·have hj':j<zs.length:=hj
    obtain⟨b,off,rfl,h2,h3⟩:=hp (by omega)
    have h9:=h3 j hj'
    rw[(hz j hj').1] at h9
    exact⟨b,off,rfl,h2,h9 0 (by omega),h9 1 (by omega),h9 2 (by omega)⟩
   ·obtain⟨j,hj,rfl⟩:=List.mem_iff_getElem.1 he
    exact(hz j hj).2
   ·have hba:=lk (elems.map (·.1))
    have hy1:y3.1=.slice (elems.map (·.1)) (rest.map (·.1)):=by simpa using congrArg Prod.fst hy
    show zs.length<=_
    simp only[List.map_cons,List.map_nil,Rows.uptoBulk,Rows.uptoBulkAll,hy1]
    simp only[List.length_map] at hba
    omega
end
end Go.Proofs.YtlgfdgdlaahpfaaGreatDoor
