import Derived.Test.YtlgfdgdlaahpfaaGreatDoorA3
import Derived.Lib.SmallJoins
set_option maxRecDepth 100000
namespace Go.Proofs.YtlgfdgdlaahpfaaGreatDoor
section
open Go.ChangeShapes Go.WideShapes Go.ChangeAt Go.RowKit Go.Deep
theorem jZ(b o j:Nat):(⟨b,o,none⟩:Addr).add j=⟨b,o+j,none⟩:=by unfold Addr.add;split <;> simp_all
theorem bm{n:Int}(h:(Lit.int .i64 n).wf=true):-9223372036854775808<=n∧n<=9223372036854775807:=by
 have h':(decide (IntKind.i64.min<=n)&&decide (n<=IntKind.i64.max))=true:=h
 rw[Bool.and_eq_true,decide_eq_true_eq,decide_eq_true_eq] at h'
 have e1:IntKind.i64.min=-9223372036854775808:=by decide
 have e2:IntKind.i64.max=9223372036854775807:=by decide
 rw[e1,e2] at h'
 exact h'
theorem kZ{n:Nat}(h:(Lit.float .f64 n).wf=true):n<18446744073709551616:=by
 have h':decide (n<2 ^ 64)=true:=h
 rw[decide_eq_true_eq] at h'
 exact h'
section
variable {H:Type} {enc:TypeId×Value->H} {W:World}
theorem kl{fuel:Nat}{t:TypeId}{cs:List Value}{x:DataW H×List MemPlace}{k:FloatKind}(ht:Tryz.prog.underlying t=some (.float k))(h:DataW.trod enc Tryz.prog W 0 (fun _=>true) true fuel t cs=some x):∃b,cs=[.float k b]∧x=(.lit (.float k b),[])∧(Lit.float k b).wf=true:=by
 cases fuel with
 |zero=>simp[DataW.trod] at h
 |succ n=>
  unfold DataW.trod at h
  rw[ht] at h
  split at h <;> simp_all
theorem bH{P:Program}{e:TypeId}:∀{l:List (DataW H)} {i:Nat} {d:DataW H},l[i]?=some d->∀n∈d.weights P e,n∈DataW.weightsAll P e l
 | [],_,_,h=>by simp at h
 |x::r,0,d,h=>by
  intro n hn
  simp at h
  subst h
  simp[DataW.weightsAll,hn]
 |x::r,i+1,d,h=>by
  intro n hn
  have:=bH (l:=r) (i:=i) (d:=d) (by simpa using h) n hn
  simp[DataW.weightsAll,this]
theorem cZ{T:Type} [Inhabited T] {c len:Nat} {a:Addr} {L:AV->T->Prop} (hc:0<c) (each:∀i,i<len->∃z:List Value×T,W.cells? 0 (a.add (i*c)) c=some z.1∧L z.1.toArray z.2) :
  ∃(us:Nat->AV) (zs:List T),zs.length=len∧(0<len->∃b off,a=⟨b,off,none⟩∧b<W.1.size∧∀j,j<len->∀m,m<c->W.cell? ⟨b,off+j*c+m,none⟩=(us j)[m]?)∧∀j (h:j<zs.length),L (us j) zs[j]:=by
 haveI:Inhabited (List Value×T):=⟨⟨[],default⟩⟩
 obtain⟨z,hz⟩:=choose_lt each
 refine⟨fun j=>(z j).1.toArray,(List.range len).map fun i=>(z i).2,by simp,fun h0=>?_,fun j hj=>?_⟩
 ·obtain⟨b,off,spot⟩:=a
  obtain⟨_,hlen0,hcell0⟩:=World.cells?_some (hz 0 h0).1
  have hc0:=hcell0 0 (by omega)
  rw[List.getElem?_eq_getElem (by omega)] at hc0
  have hspot:spot=none:=by simpa[Addr.add] using World.cell?_spot hc0
  subst hspot
  refine⟨b,off,rfl,?_,fun j hj2 m hm=>?_⟩
  ·have:=World.block_lt_of_cell? _ _ hc0
   simpa[block_add] using this
  ·obtain⟨_,hlenj,hcellj⟩:=World.cells?_some (hz j hj2).1
   have hcj:=hcellj m (by omega)
   rw[add_add,jZ] at hcj
   rw[<-Nat.add_assoc] at hcj
   rw[hcj]
   simp[hlenj,hm]
 ·have hj2:j<len:=by simpa using hj
  simp only[List.getElem_map,List.getElem_range]
  exact(hz j hj2).2
theorem ml:∀(fuel:Nat) (cs:List Value) (D:DataW H) (Pl:List MemPlace),DataW.trod enc Tryz.prog W 0 (fun _=>true) true fuel 87 cs=some (D,Pl)->(∀k∈D.weights Tryz.prog 87,k<=reachBytes)->∃x,ax W cs.toArray x∧x.wf:=by
 intro fuel
 induction fuel using Nat.strongRecOn with
 |_ fuel ih=>
  intro cs D Pl h hw
  obtain⟨xs,n,rfl,hx,hl,hlen,hf⟩:=DataW.trod_struct Tryz.underlying87 h
  have hc5:Tryz.prog.cellsOf 87=5:=by kernel_rfl
  have hb64:Tryz.prog.bytesOf 87=64:=by kernel_rfl
  have er:reachBytes=140737488351232:=by decide
  rw[hc5] at hl
  match cs,hl,xs,hlen with
  | [v0,v1,v2,v3,v4],_,[y0,y1,y2,y3,y4],_=>
   have c0:Tryz.prog.cellsOf 3=1:=by kernel_rfl
   have c1:Tryz.prog.cellsOf 2=1:=by kernel_rfl
   have c2:Tryz.prog.cellsOf 84=1:=by kernel_rfl
   have c3:Tryz.prog.cellsOf 9=1:=by kernel_rfl
   have c4:Tryz.prog.cellsOf 85=1:=by kernel_rfl
   have h0:DataW.trod enc Tryz.prog W 0 (fun _=>true) true n 3 [v0]=some y0:=by have:=hf 0 _ rfl;simpa[c0] using this
   have h1:DataW.trod enc Tryz.prog W 0 (fun _=>true) true n 2 [v1]=some y1:=by have:=hf 1 _ rfl;simpa[c1] using this
   have h2:DataW.trod enc Tryz.prog W 0 (fun _=>true) true n 84 [v2]=some y2:=by have:=hf 2 _ rfl;simpa[c2] using this
   have h3:DataW.trod enc Tryz.prog W 0 (fun _=>true) true n 9 [v3]=some y3:=by have:=hf 3 _ rfl;simpa[c3] using this
   have h4:DataW.trod enc Tryz.prog W 0 (fun _=>true) true n 85 [v4]=some y4:=by have:=hf 4 _ rfl;simpa[c4] using this
   obtain⟨n0,hn0,_,w0⟩:=DataW.trod_int Tryz.underlying3 h0
   obtain⟨n1,hn1,_,w1⟩:=DataW.trod_int Tryz.underlying2 h1
   obtain⟨n2,hn2,_,w2⟩:=kl Tryz.underlying84 h2
   obtain⟨n3,hn3,hy3,_⟩:=DataW.trod_string Tryz.underlying9 h3
   simp only[List.cons.injEq,and_true] at hn0 hn1 hn2 hn3
   subst hn0 hn1 hn2 hn3
   simp only[Prod.mk.injEq] at hx
   obtain⟨rfl,_⟩:=hx
   have hs3:n3.size<=140737488351232:=by
    have:=hw n3.data.toList.length (by
     simp[DataW.weights,DataW.weightsEach,Tryz.underlying87,hy3])
    rw[er] at this
    simpa using this
   have hw4:∀k∈y4.1.weights Tryz.prog 85,k<=reachBytes:=fun k hk=>hw k (by
    simp[DataW.weights,DataW.weightsEach,Tryz.underlying87]
    right;right;right;right
    exact hk)
   rcases DataW.trod_slice Tryz.underlying85 h4 with ⟨hcs,_⟩ | ⟨a,len,cap,elems,rest,n',rfl,hcs,hy,_,hlc,_,hel,hat,_⟩
   ·simp only[List.cons.injEq,and_true] at hcs
    subst hcs
    exact⟨.mk n0 n1 n2 n3 [],ki W n0 n1 n2 n3 none 0,V.wf_mk.2 ⟨bm w0,bm w1,kZ w2,hs3,fun x hx=>by cases hx⟩⟩
   ·simp only[List.cons.injEq,and_true] at hcs
    subst hcs
    rw[hy] at hw4
    have hbd:len*64<=140737488351232:=by
     have:=hw4 ((elems.length+rest.length)*Tryz.prog.bytesOf 87) (by simp[DataW.weights,Tryz.underlying85])
     rw[hb64,er] at this
     omega
    have each:∀i,i<len->∃z:List Value×V,W.cells? 0 (a.add (i*5)) 5=some z.1∧ax W z.1.toArray z.2∧z.2.wf:=by
     intro i hi
     have h5:=hat i hi
     rw[hc5] at h5
     obtain⟨y,hy2⟩:∃y,elems[i]?=some y:=⟨elems[i]'(by omega),List.getElem?_eq_getElem (by omega)⟩
     rw[hy2] at h5
     obtain⟨cs',g1,g2⟩:=Option.bind_eq_some_iff.1 h5
     obtain⟨x,hx⟩:=ih n' (by omega) cs' y.1 y.2 g2 (fun k hk=>hw4 k (by
      simp only[DataW.weights,Tryz.underlying85]
      refine List.mem_cons_of_mem _ (List.mem_append_left _ (bH (i:=i) (d:=y.1) ?_ k hk))
      simp[hy2]))
     exact⟨⟨cs',x⟩,g1,hx⟩
    haveI:Inhabited V:=⟨.mk 0 0 0 ⟨#[]⟩ []⟩
    obtain⟨us,zs,hll,hp,hz⟩:=cZ (L:=fun u x=>ax W u x∧x.wf) (by decide) each
    refine⟨.mk n0 n1 n2 n3 zs,?_,V.wf_mk.2 ⟨bm w0,bm w1,kZ w2,hs3,fun x hx=>?_⟩⟩
    ·have hV:ax W (cells5 n0 n1 n2 n3 (some a) zs.length cap) (.mk n0 n1 n2 n3 zs):=by
      refine .mk us (by rw[hll];exact hbd) (by rw[hll];exact hlc) (fun hne=>?_) (fun j hj=>(hz j hj).1)
      obtain⟨b,off,rfl,h2,h3⟩:=hp (by rw[<-hll];exact List.length_pos_iff.2 hne)
      exact⟨b,off,rfl,h2,fun j hj m hm=>h3 j (by omega) m hm⟩
     rw[hll] at hV
     exact hV
    ·obtain⟨j,hj,rfl⟩:=List.mem_iff_getElem.1 hx
     exact(hz j hj).2
theorem od:∀(fuel:Nat) (cs:List Value) (D:DataW H) (Pl:List MemPlace),DataW.trod enc Tryz.prog W 0 (fun _=>true) true fuel 83 cs=some (D,Pl)->(∀k∈D.weights Tryz.prog 83,k<=reachBytes)->∃x,ay W cs.toArray x∧x.wf:=by
 intro fuel
 induction fuel using Nat.strongRecOn with
 |_ fuel ih=>
  intro cs D Pl h hw
  obtain⟨xs,n,rfl,hx,hl,hlen,hf⟩:=DataW.trod_struct Tryz.underlying83 h
  have hc5:Tryz.prog.cellsOf 83=2:=by kernel_rfl
  have hb64:Tryz.prog.bytesOf 83=32:=by kernel_rfl
  have er:reachBytes=140737488351232:=by decide
  rw[hc5] at hl
  match cs,hl,xs,hlen with
  | [v0,v4],_,[y0,y4],_=>
   have c0:Tryz.prog.cellsOf 3=1:=by kernel_rfl
   have c4:Tryz.prog.cellsOf 81=1:=by kernel_rfl
   have h0:DataW.trod enc Tryz.prog W 0 (fun _=>true) true n 3 [v0]=some y0:=by have:=hf 0 _ rfl;simpa[c0] using this
   have h4:DataW.trod enc Tryz.prog W 0 (fun _=>true) true n 81 [v4]=some y4:=by have:=hf 1 _ rfl;simpa[c4] using this
   obtain⟨n0,hn0,_,w0⟩:=DataW.trod_int Tryz.underlying3 h0
   simp only[List.cons.injEq,and_true] at hn0
   subst hn0
   simp only[Prod.mk.injEq] at hx
   obtain⟨rfl,_⟩:=hx
   have hw4:∀k∈y4.1.weights Tryz.prog 81,k<=reachBytes:=fun k hk=>hw k (by
    simp[DataW.weights,DataW.weightsEach,Tryz.underlying83]
    right
    exact hk)
   rcases DataW.trod_slice Tryz.underlying81 h4 with ⟨hcs,_⟩ | ⟨a,len,cap,elems,rest,n',rfl,hcs,hy,_,hlc,_,hel,hat,_⟩
   ·simp only[List.cons.injEq,and_true] at hcs
    subst hcs
    exact⟨.mk n0 [],km W n0 none 0,Ty.wf_mk.2 ⟨bm w0,fun x hx=>by cases hx⟩⟩
   ·simp only[List.cons.injEq,and_true] at hcs
    subst hcs
    rw[hy] at hw4
    have hbd:len*32<=140737488351232:=by
     have:=hw4 ((elems.length+rest.length)*Tryz.prog.bytesOf 83) (by simp[DataW.weights,Tryz.underlying81])
     rw[hb64,er] at this
     omega
    have each:∀i,i<len->∃z:List Value×Ty,W.cells? 0 (a.add (i*2)) 2=some z.1∧ay W z.1.toArray z.2∧z.2.wf:=by
     intro i hi
     have h5:=hat i hi
     rw[hc5] at h5
     obtain⟨y,hy2⟩:∃y,elems[i]?=some y:=⟨elems[i]'(by omega),List.getElem?_eq_getElem (by omega)⟩
     rw[hy2] at h5
     obtain⟨cs',g1,g2⟩:=Option.bind_eq_some_iff.1 h5
     obtain⟨x,hx⟩:=ih n' (by omega) cs' y.1 y.2 g2 (fun k hk=>hw4 k (by
      simp only[DataW.weights,Tryz.underlying81]
      refine List.mem_cons_of_mem _ (List.mem_append_left _ (bH (i:=i) (d:=y.1) ?_ k hk))
      simp[hy2]))
     exact⟨⟨cs',x⟩,g1,hx⟩
    haveI:Inhabited Ty:=⟨.mk 0 []⟩
    obtain⟨us,zs,hll,hp,hz⟩:=cZ (L:=fun u x=>ay W u x∧x.wf) (by decide) each
    refine⟨.mk n0 zs,?_,Ty.wf_mk.2 ⟨bm w0,fun x hx=>?_⟩⟩
    ·have hV:ay W (al n0 (some a) zs.length cap) (.mk n0 zs):=by
      refine .mk us (by rw[hll];exact hbd) (by rw[hll];exact hlc) (fun hne=>?_) (fun j hj=>(hz j hj).1)
      obtain⟨b,off,rfl,h2,h3⟩:=hp (by rw[<-hll];exact List.length_pos_iff.2 hne)
      exact⟨b,off,rfl,h2,fun j hj m hm=>h3 j (by omega) m hm⟩
     rw[hll] at hV
     exact hV
    ·obtain⟨j,hj,rfl⟩:=List.mem_iff_getElem.1 hx
     exact(hz j hj).2
end
end
section
open Go.ChangeShapes Go.WideShapes Go.ChangeAt Go.RowKit Go.Deep
section
variable {H:Type} {enc:TypeId×Value->H} {W:World}
theorem qc(fuel:Nat)(cs:List Value)(D:DataW H)(Pl:List MemPlace)(h:DataW.trod enc Tryz.prog W 0 (fun _=>true) true fuel 89 cs=some (D,Pl))(hw:∀k∈D.weights Tryz.prog 89,k<=reachBytes):∃x,dC W cs.toArray x∧x.wf:=by
 obtain⟨xs,n,rfl,hx,hl,hlen,hf⟩:=DataW.trod_struct Tryz.underlying89 h
 have hc5:Tryz.prog.cellsOf 89=9:=by kernel_rfl
 have er:reachBytes=140737488351232:=by decide
 rw[hc5] at hl
 match cs,hl,xs,hlen with
 | [v0,v1,v2,v3,v4,v5,v6,v7,v8],_,[y0,y1,y2,y3],_=>
  have c0:Tryz.prog.cellsOf 9=1:=by kernel_rfl
  have c1:Tryz.prog.cellsOf 83=2:=by kernel_rfl
  have c2:Tryz.prog.cellsOf 4=1:=by kernel_rfl
  have c3:Tryz.prog.cellsOf 87=5:=by kernel_rfl
  have h0:DataW.trod enc Tryz.prog W 0 (fun _=>true) true n 9 [v0]=some y0:=by have:=hf 0 _ rfl;simpa[c0] using this
  have h1:DataW.trod enc Tryz.prog W 0 (fun _=>true) true n 83 [v1,v2]=some y1:=by have:=hf 1 _ rfl;simpa[c1] using this
  have h2:DataW.trod enc Tryz.prog W 0 (fun _=>true) true n 4 [v3]=some y2:=by have:=hf 2 _ rfl;simpa[c2] using this
  have h3:DataW.trod enc Tryz.prog W 0 (fun _=>true) true n 87 [v4,v5,v6,v7,v8]=some y3:=by have:=hf 3 _ rfl;simpa[c3] using this
  obtain⟨n0,hn0,hy0,_⟩:=DataW.trod_string Tryz.underlying9 h0
  obtain⟨n3,hn3,_⟩:=DataW.trod_bool Tryz.underlying4 h2
  simp only[List.cons.injEq,and_true] at hn0 hn3
  subst hn0 hn3
  simp only[Prod.mk.injEq] at hx
  obtain⟨rfl,_⟩:=hx
  have hs0:n0.size<=140737488351232:=by
   have:=hw n0.data.toList.length (by
    simp[DataW.weights,DataW.weightsEach,Tryz.underlying89,hy0])
   rw[er] at this
   simpa using this
  obtain⟨ty,hty,wty⟩:=od n _ y1.1 y1.2 h1 (fun k hk=>hw k (by
   simp[DataW.weights,DataW.weightsEach,Tryz.underlying89]
   right;left
   exact hk))
  obtain⟨dv,hdv,wdv⟩:=ml n _ y3.1 y3.2 h3 (fun k hk=>hw k (by
   simp[DataW.weights,DataW.weightsEach,Tryz.underlying89]
   right;right;right
   exact hk))
  obtain⟨k,p,c,ts,_,e1,rfl,_⟩:=hty.inv
  obtain⟨vk,vi,vb,vt,vp,vc,vs,_,e2,rfl,_⟩:=hdv.inv
  simp only[al] at e1
  simp only[cells5] at e2
  obtain⟨rfl,rfl⟩:=e1
  obtain⟨rfl,rfl,rfl,rfl,rfl⟩:=e2
  exact⟨⟨n0,.mk k ts,n3,.mk vk vi vb vt vs⟩,⟨k,p,ts.length,c,vk,vi,vb,vt,vp,vs.length,vc,rfl,hty,hdv⟩,hs0,wty,wdv⟩
theorem oe{a:Addr}{len:Nat}(each:∀i,i<len->∃z:List Value×Col,W.cells? 0 (a.add (i*9)) 9=some z.1∧dC W z.1.toArray z.2∧z.2.wf):∃s:List Col,s.length=len∧bg W (some a) s∧∀x∈s,x.wf:=by
 haveI:Inhabited Col:=⟨⟨⟨#[]⟩,.mk 0 [],false,.mk 0 0 0 ⟨#[]⟩ []⟩⟩
 obtain⟨us,zs,hll,hp,hz⟩:=cZ (L:=fun u x=>dC W u x∧x.wf) (by decide) each
 refine⟨zs,hll,fun j hj=>?_,fun x hx=>?_⟩
 ·obtain⟨b,off,rfl,h2,h3⟩:=hp (by omega)
  refine⟨us j,(hz j hj).1,?_⟩
  obtain⟨k,tp,tn,tc,vk,vi,vb,vt,vp,vn,vc,g1,g2,g3⟩:=(hz j hj).1.out
  have h9:∀m,m<9->W.cell? ⟨b,off+j*9+m,none⟩=(aA zs[j].name k tp tn tc zs[j].has vk vi vb vt vp vn vc)[m]?:=fun m hm=>by rw[h3 j (by omega) m hm,g1]
  exact⟨b,off,_,k,tp,tn,tc,_,vk,vi,vb,vt,vp,vn,vc,rfl,h2,g1,h9 0 (by decide),h9 1 (by decide),h9 2 (by decide),h9 3 (by decide),h9 4 (by decide),h9 5 (by decide),h9 6 (by decide),h9 7 (by decide),h9 8 (by decide)⟩
 ·obtain⟨j,hj,rfl⟩:=List.mem_iff_getElem.1 hx
  exact(hz j hj).2
theorem kF(fuel:Nat)(cs:List Value)(D:DataW H)(Pl:List MemPlace)(h:DataW.trod enc Tryz.prog W 0 (fun _=>true) true fuel 30 cs=some (D,Pl))(hw:∀k∈D.weights Tryz.prog 30,k<=reachBytes):∃(p:OA) (c:Nat) (s:List Col),cs=[.slice p s.length c]∧s.length*120<=140737488351232∧s.length<=c∧bg W p s∧∀x∈s,x.wf:=by
 obtain⟨xs,n,rfl,hx,hl,hlen,hf⟩:=DataW.trod_struct Tryz.underlying30 h
 have hc1:Tryz.prog.cellsOf 30=1:=by kernel_rfl
 have hc9:Tryz.prog.cellsOf 89=9:=by kernel_rfl
 have hb120:Tryz.prog.bytesOf 89=120:=by kernel_rfl
 have er:reachBytes=140737488351232:=by decide
 rw[hc1] at hl
 match cs,hl,xs,hlen with
 | [v0],_,[y0],_=>
  have c0:Tryz.prog.cellsOf 28=1:=by kernel_rfl
  have h0:DataW.trod enc Tryz.prog W 0 (fun _=>true) true n 28 [v0]=some y0:=by have:=hf 0 _ rfl;simpa[c0] using this
  simp only[Prod.mk.injEq] at hx
  obtain⟨rfl,_⟩:=hx
  have hw4:∀k∈y0.1.weights Tryz.prog 28,k<=reachBytes:=fun k hk=>hw k (by
   simp[DataW.weights,DataW.weightsEach,Tryz.underlying30]
   exact hk)
  rcases DataW.trod_slice Tryz.underlying28 h0 with ⟨hcs,_⟩ | ⟨a,len,cap,elems,rest,n',rfl,hcs,hy,_,hlc,_,hel,hat,_⟩
  ·simp only[List.cons.injEq,and_true] at hcs
   subst hcs
   exact⟨none,0,[],rfl,by decide,vX,fun j hj=>absurd hj (Nat.not_lt_zero _),fun x hx=>by cases hx⟩
  ·simp only[List.cons.injEq,and_true] at hcs
   subst hcs
   rw[hy] at hw4
   have hbd:len*120<=140737488351232:=by
    have:=hw4 ((elems.length+rest.length)*Tryz.prog.bytesOf 89) (by simp[DataW.weights,Tryz.underlying28])
    rw[hb120,er] at this
    omega
   obtain⟨s,h1,h2,h3⟩:=oe (W:=W) (a:=a) (len:=len) (fun i hi=>by
    have h5:=hat i hi
    rw[hc9] at h5
    obtain⟨y,hy2⟩:∃y,elems[i]?=some y:=⟨elems[i]'(by omega),List.getElem?_eq_getElem (by omega)⟩
    rw[hy2] at h5
    obtain⟨cs',g1,g2⟩:=Option.bind_eq_some_iff.1 h5
    obtain⟨x,hx⟩:=qc n' cs' y.1 y.2 g2 (fun k hk=>hw4 k (by
     simp only[DataW.weights,Tryz.underlying28]
     refine List.mem_cons_of_mem _ (List.mem_append_left _ (bH (i:=i) (d:=y.1) ?_ k hk))
     simp[hy2]))
    exact⟨⟨cs',x⟩,g1,hx⟩)
   subst h1
   exact⟨some a,cap,s,rfl,hbd,hlc,h2,h3⟩
end
end
end Go.Proofs.YtlgfdgdlaahpfaaGreatDoor
