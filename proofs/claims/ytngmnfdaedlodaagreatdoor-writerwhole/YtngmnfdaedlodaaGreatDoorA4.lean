import Derived.Test.YtngmnfdaedlodaaGreatDoorA3
set_option maxRecDepth 100000
set_option maxHeartbeats 4000000
namespace Go.Proofs.YtngmnfdaedlodaaGreatDoor
open Go.Proofs.Tryz
open Option renaming some->I,none->U
open Go.Value renaming int->Y,slice->pv,pointer->qq
open Go.IntKind renaming i64->O
open Or renaming inl->AZ,inr->AX
open Go.Obj renaming cells->wx
open Go renaming Value->AA,World->AU
open Go.RowKit renaming Below->AC
open Go.Ending renaming returned->wv
open Go.Proofs.Tryz renaming prog->AE
variable{g p:Nat}{w:AU}{C:AV}{T:TypeId}
section
open Go.RowKit
namespace Wr
def starts(fs:List Fr):List Int:=(List.range fs.length).map fun i=>((bytes (fs.take i)).length:Int)
theorem bytes_snoc(fs:List Fr)(f:Fr):bytes (fs++[f])=bytes fs++Fr.out f:=by simp[bytes]
theorem starts_snoc(fs:List Fr)(f:Fr):starts (fs++[f])=starts fs++[((bytes fs).length:Int)]:=by
 unfold starts;rw[AH,AO,List.range_succ,List.map_append];congr 1
 ·apply List.map_congr_left;intro i o;rw[List.mem_range] at o;rw[List.take_append_of_le_length (by omega)]
 ·simp
theorem starts_len(fs:List Fr):(starts fs).length=fs.length:=by simp[starts]
theorem starts_get(fs:List Fr)(i:Nat)(h:i<(starts fs).length):(starts fs)[i]=((bytes (fs.take i)).length:Int):=by simp[starts]
theorem takes_snoc(f:Fr):∀(fs:List Fr) (k:Wk) (p:Int),takes k p (fs++[f])=Sc.next (takes k p fs) f (p+((bytes fs).length:Nat))
 | [],k,p=>by simp[takes,bytes]
 |g::fs,k,p=>by
  show takes (Sc.next k g p) (p+((Fr.out g).length:Nat)) (fs++[f])=_;rw[takes_snoc f fs];show Sc.next (takes (Sc.next k g p) (p+((Fr.out g).length:Nat)) fs) f _=Sc.next (takes (Sc.next k g p) (p+((Fr.out g).length:Nat)) fs) f _;congr 1;simp[bytes];omega
theorem out_most(f:Fr):(Fr.out f).length<=2202:=by
 unfold Fr.out;split
 ·next h=>
  have:=(Fr.err_open h).2;simp;omega
 ·simp
end Wr
section
variable {α:Type} {T S:TypeId} {k:Nat} {P:α->List AA->AU->Prop} {w w':AU} {B:Nat} {v:AA} {xs:List α}
theorem Lot.blk(h:Lot T k P w B v xs){i:Nat}(o:v.ownBlock=I i):∃C,w.1[i]?=I (wx C T (0,0)):=by
 obtain⟨us,_,_,A,_⟩:=h.out;rcases A.2 with ⟨rfl,_⟩ | ⟨g,cap,y,rfl,_,D,_⟩
 ·cases o
 ·injection o with o;rw[<-o];exact⟨y,D⟩
theorem mC{ad H b:Nat}{z:AA}(be:(Tryz.prog.info? T).map (fun i=>(i.zero,i.size,i.bytes))=I (I z,k,b))(a8:Tryz.prog.underlying S=I (.slice T))(bX:z.cells.size=k)(bk:0<k)(bp:Lot T k P w B v xs)(x:α)(C:AV)(Z:C.size=k)(a1:∀a∈C.toList,a.oneCell'=true)(a7:eM (fun i=>v.ownBlock=I i) w (P x C.toList))(a9:w.1[ad]?=I (wx C T (0,0)))(bl:(xs.length+1)*b<=140737488355328)(b1:xs.length<=1000000000)(a4:B<=w.1.size)(a5:w.1.size=H){b0:Array Oper}{A:Oper}{a:Act}{K:Act->AU->Prop}{Q:Exit->Act->AU->Prop}{E:Prop}{y q:Operand}(bc:A.guard=U)(bn:A.op=Op.call { callee:=Callee.builtin Builtin.append,args:=#[y,q],argTypes:=#[S,S] })(bq:a.eval y=v)(bO:a.eval q=pv (I ⟨ad,0,U⟩) 1 1)(a6:∀g cap w',Lot T k P w' B (pv (I ⟨g,0,U⟩) (xs.length+1) cap) (xs++[x])->Aside (fun j=>v.ownBlock=I j) w w'->(v.ownBlock=I g∨g=H)->K (a.put A.dst (pv (I ⟨g,0,U⟩) (xs.length+1) cap)) w'):
  if Region.wanted A (yielded b0 a.tmps)=true then Oper.wp AE A a w K Q else E:=by
 obtain⟨i,D,bT,bN,bb⟩:=info_parts be;obtain⟨us,X,aj,ak,aw⟩:=bp.out
 refine step_append_lies w bc y q S bn B T i z k b a8 D bT bN bb bX bk v xs.length us.flatten bq ak ⟨ad,0,U⟩ 1 1 _ bO (by simp[Z])
  (World.news_of_block a9) a1 (by decide) (by unfold maxLen;omega) bl a4 H a5 fun g cap w' a2 a3 h5 _=>?_
 have J:=ce a3;have ab:∀i,(pv (I ⟨g,0,U⟩) (xs.length+1) cap).ownBlock=I i->v.ownBlock=I i∨w.1.size<=i:=fun i D=>by
  simp only[Value.ownBlock,Option.some.injEq] at D;subst D;rcases h5 with h5 | h5
  ·exact AZ h5
  ·exact AX (by omega)
 refine a6 g cap w' ⟨us++[C.toList],by simp[X],fun u o=>?_,?_,fun j bi=>?_⟩ J h5
 ·rcases List.mem_append.1 o with o | o
  ·exact aj u o
  ·simp at o;rw[o];simpa using Z
 ·rw[AH,AO,List.flatten_append];simpa using a2
 ·by_cases ah:j<xs.length
  ·obtain⟨u,f1,a0⟩:=aw j ah;refine⟨u,by rw[List.getElem?_append_left (by omega)];exact f1,?_⟩;rw[List.getElem_append_left ah];exact a0.step J ab
  ·have bj:j=xs.length:=(by rw[AH,AO] at bi;omega);subst bj;refine⟨C.toList,by rw[List.getElem?_append_right (by omega),X];simp,?_⟩;simp only[List.getElem_append_right gQx,Nat.sub_self,List.getElem_cons_zero];exact a7.step J ab
end
def iS(G:Nat->Prop)(f:Fr)(u:List AA)(w:AU):Prop:=∀w',Aside G w w'->cm w' u.toArray f
structure Pc(w0 w:AU)(pb:Nat)(fv sv bv:AA)(G:Nat->Prop)(fs:List Fr)(ss:List Int)(bs:L8):Prop where
 lies:w.1[pb]?=I (wx #[fv,sv,bv] 90 (0,0))
 low:w0.1.size<=pb
 frames:Lot 52 11 (iS G) w w0.1.size fv fs
 starts:Lot 3 1 (fun(x:Int) u _=>u=[Y O x]) w w0.1.size sv ss
 bytes:Has w w0.1.size bv bs
 below:AC w0.1.size w0 w
 all:∀i,w0.1.size<=i->G i
section
variable {G:Nat->Prop} {w0 w w':AU} {pb:Nat} {fv sv bv fv' sv' bv':AA} {fs fs':List Fr} {ss ss':List Int} {bs bs':L8}
theorem Pc.lt(h:Pc w0 w pb fv sv bv G fs ss bs):pb<w.1.size:=ap h.lies
theorem Pc.cell(h:Pc w0 w pb fv sv bv G fs ss bs)(i:Nat):w.cell? ⟨pb,i,U⟩=(#[fv,sv,bv]:AV)[i]?:=by
 unfold World.cell?;rw[h.lies];rfl
theorem Pc.thawed(h:Pc w0 w pb fv sv bv G fs ss bs)(i:Nat):w.frozen? ⟨pb,i,U⟩=false:=by simp[World.frozen?,h.lies]
theorem Pc.stay{F:Nat->Prop}{v:AA}(h:Pc w0 w pb fv sv bv G fs ss bs)(J:Aside F w w')(D:∀i,F i->w0.1.size<=i)(Q:∀i,v.ownBlock=I i->w0.1.size<=i)(x:Fr)(u:List AA)(K:eM (fun i=>v.ownBlock=I i) w (iS G x u)):eM (fun i=>v.ownBlock=I i) w' (iS G x u):=fun _ y X A=>
 K.here X (((J.mono (fun i _ o=>h.all i (D i o))).trans y (fun i _ o=>h.all i (Q i o))).trans A (fun _ _ o=>o))
theorem Pc.on(h:Pc w0 w pb fv sv bv G fs ss bs)(hb:AC w.1.size w w'):Pc w0 w' pb fv sv bv G fs ss bs :=
 ⟨(hb.block pb h.lt).trans h.lies,h.low,h.frames.on hb,h.starts.on hb,h.bytes.on hb,h.below.trans (hb.mono h.below.size),h.all⟩
theorem Pc.fl(h:Pc w0 w pb fv sv bv G fs ss bs):∀i,fv.ownBlock=I i->w0.1.size<=i:=fun i o=>(h.frames.lt i o).1
theorem bu{i:Nat}{y:AV}{o:TypeId}(h:w.1[p]?=I (wx C T (0,0)))(k:w.1[i]?=I (wx y o (0,0)))(A:T≠o):i≠p:=fun e=>by
 subst e;rw[h] at k;injection k with k;injection k with _ k;exact A k
theorem bV(h:w.1[p]?=I (wx C T (0,0)))(m:Nat)(u:AA):(w.setCell ⟨p,m,U⟩ u).1[p]?=I (wx (C.setIfInBounds m u) T (0,0)):=by
 simp[World.setCell,Array.getElem?_modify,h]
def pAs(pb:Nat)(v:AA)(i:Nat):Prop:=i=pb∨v.ownBlock=I i
theorem Pc.f(h:Pc w0 w pb fv sv bv G fs ss bs)(ab:Aside (fun i=>fv.ownBlock=I i) w w')(K:Lot 52 11 (iS G) w' w0.1.size fv' fs'):w'.1[pb]?=I (wx #[fv,sv,bv] 90 (0,0))∧Pc w0 (w'.setCell ⟨pb,0,U⟩ fv') pb fv' sv bv G fs' ss bs∧Aside (pAs pb fv) w (w'.setCell ⟨pb,0,U⟩ fv'):=by
 have aw:∀i,fv.ownBlock=I i->i≠pb:=fun i o=>by
  obtain⟨C,A⟩:=h.frames.blk o;exact bu h.lies A (by decide)
 have Q:w'.1[pb]?=I (wx #[fv,sv,bv] 90 (0,0)):=(ab.block pb h.lt (fun y=>aw _ y rfl)).trans h.lies;have Z:Aside (fun i=>i=pb) w' (w'.setCell ⟨pb,0,U⟩ fv'):=(Aside.refl (fun i=>i=pb) w').setCell (p:=⟨pb,0,U⟩) (AZ rfl) _;have hA:Aside (pAs pb fv) w (w'.setCell ⟨pb,0,U⟩ fv'):=(ab.mono (fun i _ o=>AX o)).trans Z (fun i _ o=>AZ o);have ak:∀i,pAs pb fv i->w0.1.size<=i:=fun i o=>by
  rcases o with o | o
  ·rw[o];exact h.low
  ·exact h.fl i o
 refine⟨Q,⟨bV Q 0 fv',h.low,K.aside Z (fun i o y=>?_) (fun x u X=>?_),h.starts.aside hA (fun i o y=>?_) (fun _ _ X _ _=>X.here),h.bytes.aside hA (fun i o y=>?_),h.below.trans (hA.below h.below.size (fun k a1 y=>by have:=ak k y;omega)),h.all⟩,hA⟩
 ·obtain⟨C,A⟩:=K.blk o;exact bu Q A (by decide) y
 ·exact fun a2 ai a0 aj=>X.here a0 (((Z.mono (fun i _ o=>h.all i (by rw[o];exact h.low))).trans ai (fun i _ o=>h.all i (K.lt i o).1)).trans aj (fun _ _ o=>o))
 ·obtain⟨C,A⟩:=h.starts.blk o;rcases y with y | y
  ·exact bu h.lies A (by decide) y
  ·obtain⟨D,J⟩:=h.frames.blk y;exact bu A J (by decide) rfl
 ·obtain⟨C,A⟩:=da h.bytes o;rcases y with y | y
  ·exact bu h.lies A (by decide) y
  ·obtain⟨D,J⟩:=h.frames.blk y;exact bu A J (by decide) rfl
theorem Pc.s(h:Pc w0 w pb fv sv bv G fs ss bs)(X:Aside (fun i=>sv.ownBlock=I i) w w')(Z:Lot 3 1 (fun(x:Int) u _=>u=[Y O x]) w' w0.1.size sv' ss'):w'.1[pb]?=I (wx #[fv,sv,bv] 90 (0,0))∧Pc w0 (w'.setCell ⟨pb,1,U⟩ sv') pb fv sv' bv G fs ss' bs∧Aside (pAs pb sv) w (w'.setCell ⟨pb,1,U⟩ sv'):=by
 have ai:∀i,sv.ownBlock=I i->i≠pb:=fun i y=>by
  obtain⟨C,A⟩:=h.starts.blk y;exact bu h.lies A (by decide)
 have K:w'.1[pb]?=I (wx #[fv,sv,bv] 90 (0,0)):=(X.block pb h.lt (fun o=>ai _ o rfl)).trans h.lies;have ab:Aside (fun i=>i=pb) w' (w'.setCell ⟨pb,1,U⟩ sv'):=(Aside.refl (fun i=>i=pb) w').setCell (p:=⟨pb,1,U⟩) (AZ rfl) _;have hA:Aside (pAs pb sv) w (w'.setCell ⟨pb,1,U⟩ sv'):=(X.mono (fun i _ y=>AX y)).trans ab (fun i _ y=>AZ y);have Q:∀i,pAs pb sv i->w0.1.size<=i:=fun i y=>by
  rcases y with y | y
  ·rw[y];exact h.low
  ·exact(h.starts.lt i y).1
 refine⟨K,⟨bV K 1 sv',h.low,h.frames.aside hA (fun i y o=>?_) (h.stay hA Q h.fl),Z.aside ab (fun i y o=>?_) (fun _ _ aj _ _=>aj.here),h.bytes.aside hA (fun i y o=>?_),h.below.trans (hA.below h.below.size (fun k ak o=>by have:=Q k o;omega)),h.all⟩,hA⟩
 ·obtain⟨C,A⟩:=h.frames.blk y;rcases o with o | o
  ·exact bu h.lies A (by decide) o
  ·obtain⟨D,J⟩:=h.starts.blk o;exact bu A J (by decide) rfl
 ·obtain⟨C,A⟩:=Z.blk y;exact bu K A (by decide) o
 ·obtain⟨C,A⟩:=da h.bytes y;rcases o with o | o
  ·exact bu h.lies A (by decide) o
  ·obtain⟨D,J⟩:=h.starts.blk o;exact bu A J (by decide) rfl
theorem Pc.b(h:Pc w0 w pb fv sv bv G fs ss bs)(X:Aside (fun i=>bv.ownBlock=I i) w w')(Z:Has w' w0.1.size bv' bs'):w'.1[pb]?=I (wx #[fv,sv,bv] 90 (0,0))∧Pc w0 (w'.setCell ⟨pb,2,U⟩ bv') pb fv sv bv' G fs ss bs'∧Aside (pAs pb bv) w (w'.setCell ⟨pb,2,U⟩ bv'):=by
 have ai:∀i,bv.ownBlock=I i->i≠pb:=fun i y=>by
  obtain⟨C,A⟩:=da h.bytes y;exact bu h.lies A (by decide)
 have K:w'.1[pb]?=I (wx #[fv,sv,bv] 90 (0,0)):=(X.block pb h.lt (fun o=>ai _ o rfl)).trans h.lies;have ab:Aside (fun i=>i=pb) w' (w'.setCell ⟨pb,2,U⟩ bv'):=(Aside.refl (fun i=>i=pb) w').setCell (p:=⟨pb,2,U⟩) (AZ rfl) _;have hA:Aside (pAs pb bv) w (w'.setCell ⟨pb,2,U⟩ bv'):=(X.mono (fun i _ y=>AX y)).trans ab (fun i _ y=>AZ y);have Q:∀i,pAs pb bv i->w0.1.size<=i:=fun i y=>by
  rcases y with y | y
  ·rw[y];exact h.low
  ·exact(h.bytes.lt i y).1
 refine⟨K,⟨bV K 2 bv',h.low,h.frames.aside hA (fun i y o=>?_) (h.stay hA Q h.fl),h.starts.aside hA (fun i y o=>?_) (fun _ _ aj _ _=>aj.here),Z.aside ab (fun i y o=>?_),h.below.trans (hA.below h.below.size (fun k ak o=>by have:=Q k o;omega)),h.all⟩,hA⟩
 ·obtain⟨C,A⟩:=h.frames.blk y;rcases o with o | o
  ·exact bu h.lies A (by decide) o
  ·obtain⟨D,J⟩:=da h.bytes o;exact bu A J (by decide) rfl
 ·obtain⟨C,A⟩:=h.starts.blk y;rcases o with o | o
  ·exact bu h.lies A (by decide) o
  ·obtain⟨D,J⟩:=da h.bytes o;exact bu A J (by decide) rfl
 ·obtain⟨C,A⟩:=da Z y;exact bu K A (by decide) o
theorem wD:(Tryz.prog.info? 52).map (fun i=>(i.zero,i.size,i.bytes))=I (I (.agg #[Y O 0,Y O 0,pv U 0 0,Y O 0,Y O 0,Y O 0,pv U 0 0,Y O 0,Y O 0,Y O 0,pv U 0 0]),11,136):=by kernel_rfl
theorem wB:(Tryz.prog.info? 3).map (fun i=>(i.zero,i.size,i.bytes))=I (I (Y O 0),1,8):=by kernel_rfl
def yU(w0 w:AU)(pb:Nat)(fv sv bv:AA)(G:Nat->Prop)(fs:List Fr)(w':AU):Prop:=∃fv' sv' bv',Pc w0 w' pb fv' sv' bv' G fs (Wr.starts fs) (Wr.bytes fs)∧Aside (fun i=>i=pb∨fv.ownBlock=I i∨sv.ownBlock=I i∨bv.ownBlock=I i) w w'
theorem wL{w':AU}{f:Fr}{e:Ending}(h:kt w (Fr.err f) (0::(Fr.run f++[0])) e w'):∃(q:OA) (cap:Nat) (y:Int),e=wv (.tuple #[pv q (Fr.out f).length cap,Y O y])∧Has w' w.1.size (pv q (Fr.out f).length cap) (Fr.out f)∧AC w.1.size w w':=by
 rcases h with ⟨o,q,cap,rfl,A,hb⟩ | ⟨o,rfl,hb⟩
 ·have e:Fr.out f=0::(Fr.run f++[0]):=AG o;rw[e];exact⟨q,cap,0,rfl,A,hb⟩
 ·have e:Fr.out f=[]:=AF o;rw[e];exact⟨U,0,_,rfl,bG _ _,hb⟩
theorem qH(h:Pc w0 w pb fv sv bv G fs (Wr.starts fs) (Wr.bytes fs))(f:Fr)(c5:f.wf)(u:AV)(bb:iS G f u.toList w)(cy:Hv w)(ew:fs.length<=10)(ev:(Wr.bytes fs).length<=100000):
    Calls AE 57 #[qq (I ⟨pb,0,U⟩),.agg u] w fun e' w'=>e'=wv (.tuple #[])∧yU w0 w pb fv sv bv G (fs++[f]) w':=by
  have b6:cm w u f:=by simpa using bb w (Aside.refl _ _)
  have b7:=b6;obtain⟨sp,be,a5,a4,a7,a6,rfl,-⟩:=b6.out;unfold aF at b7 bb ⊢;obtain⟨Q,a2⟩:∃Q,Q=w.alloc (wx #[Y O f.kind,Y O f.number,pv sp f.cols.length be,Y O f.seq,Y O f.first,Y O f.rows,pv a5 f.block.length a4,Y O f.index.at_,Y O f.index.frames,Y O f.index.rows,pv a7 f.index.entries.length a6] 52):=⟨_,rfl⟩;have a9:AC w.1.size w Q:=by rw[a2];exact gQy
  have bq:Hid (Calls AE 45 #[.agg #[Y O f.kind,Y O f.number,pv sp f.cols.length be,Y O f.seq,Y O f.first,Y O f.rows,pv a5 f.block.length a4,Y O f.index.at_,Y O f.index.frames,Y O f.index.rows,pv a7 f.index.entries.length a6]] Q fun e w'=>∃(q:OA) (cap:Nat) (ck:Int),e=wv (.tuple #[pv q (Fr.out f).length cap,Y O ck])∧Has w' Q.1.size (pv q (Fr.out f).length cap) (Fr.out f)∧AC Q.1.size Q w'):=(qD f c5 _ Q (cy.next a9) (b7.on a9)).mono fun _ _ h=>wL h;have A:=gQq h;have d5:=gQq bb;have cb:=gQq a9;have d9:=gQq a2.symm;have b4:=an w (wx #[Y O f.kind,Y O f.number,pv sp f.cols.length be,Y O f.seq,Y O f.first,Y O f.rows,pv a5 f.block.length a4,Y O f.index.at_,Y O f.index.frames,Y O f.index.rows,pv a7 f.index.entries.length a6] 52);rw[<-a2] at b4;have d4:=gQq b4;have fo:Q.1.size=w.1.size+1:=by rw[a2];simp
  have eL:=Wr.out_most f;obtain⟨bc,b8⟩:∃bc,bc=Fr.out f:=⟨_,rfl⟩;have cc:Hid (Wr.bytes (fs++[f])=Wr.bytes fs++bc):=by rw[b8];exact Wr.bytes_snoc fs f
  have bN:=gQq (Wr.starts_snoc fs f);rw[<-b8] at bq eL;obtain⟨K,ct⟩:∃K,K=Wr.bytes fs:=⟨_,rfl⟩;obtain⟨ai,b9⟩:∃ai,ai=Wr.starts fs:=⟨_,rfl⟩;have e9:ai.length<=10:=by rw[b9,Wr.starts_len];exact ew
  rw[<-ct] at A cc bN ev;rw[<-b9] at A bN;clear h bb b6 b7 cy a9 a2 b4 c5 b8 ct b9;go_enter func57,ntmps57;go_wp2_with fail;rw[d9.out];refine bq.out.mono ?_;rintro e w1 ⟨q,cap,ck,rfl,Z,b3⟩;have bj:=gQq Z;obtain⟨ah,ab,er,-,-⟩:=A.out.bytes.at;subst er;have a1:=cb.out.trans (b3.mono cb.out.size);have a8:=A.out.on a1;have c0:w1.cell? ⟨pb,0,U⟩=I fv:=a8.cell 0;have b5:=(b3.block w.1.size (by omega)).trans d4.out;obtain⟨c6,c7,c9,df,dj,dr,ds,du,dv,d0,c8⟩:=cg b5;have eg:∀o,(w1.alloc o).cell? ⟨pb,0,U⟩=I fv:=fun o=>ae (gQz.alloc gQx o) c0;have e0:pb≠w.1.size:=Nat.ne_of_lt A.out.lt;have e8:w.1.size≠pb:=fun e=>e0 e.symm;have d1:=gQq a8;have bn:=gQq a1;have bp:=gQq b5;have d6:Hid (∀o,Lot 52 11 (iS G) (w1.alloc o).drew w0.1.size fv fs):=fun o=>a8.frames.on gQy.drew;have d7:Hid (∀o,eM (fun i=>fv.ownBlock=I i) (w1.alloc o).drew (iS G f [Y O f.kind,Y O f.number,pv sp f.cols.length be,Y O f.seq,Y O f.first,Y O f.rows,pv a5 f.block.length a4,Y O f.index.at_,Y O f.index.frames,Y O f.index.rows,pv a7 f.index.entries.length a6])):=fun o bi aw aj a0=>
    d5.out aj (((af (a1.alloc a1.size o).drew G).trans aw (fun i _ y=>A.out.all i (A.out.fl i y))).trans a0 (fun _ _ y=>y))
  clear b3 Z a1 a8 b5 bq;go_wp2_with fail
  go_region_law (first|(refine mC (P:=iS G) wD underlying87 rfl (by decide) (d6.out _) f _ (by rfl) (by intro a Z;simp at Z;rcases Z with rfl | rfl | rfl | rfl | rfl | rfl | rfl | rfl | rfl | rfl | rfl <;> rfl) (d7.out _) (an _ _) (by omega) (by omega) (by have:=A.out.below.size;have:=bn.out.size;simp;omega) rfl (by rfl) (by rfl) (by rfl) (by rfl) ?_;intro cn ci bi cw b2 ez;obtain⟨D,aw,bT⟩:=(d1.out.on gQy.drew).f b2 cw;have c0:bi.cell? ⟨pb,0,U⟩=I fv:=aa D 0;have e5:bi.frozen? ⟨pb,0,U⟩=false:=ac D 0;have cu:=(b2.block w.1.size (by have:=ap bp.out;simp;omega) (fun J=>by have:=(A.out.frames.lt _ J).2;omega)).trans (((gQy.drew).block _ (ap bp.out)).trans bp.out);obtain⟨c6,c7,c9,df,dj,dr,ds,du,dv,d0,c8⟩:=cg cu;obtain⟨X,b0⟩:∃W,W=bi.setCell ⟨pb,0,U⟩ (pv (I ⟨cn,0,U⟩) (fs.length+1) ci):=⟨_,rfl⟩;rw[<-b0] at aw bT;have ak:=gQq aw;have ea:=gQq b0.symm;have bk:Hid (Aside (pAs pb fv) w1 X):=(af (gQy.drew) _).trans bT (fun _ _ h=>h);clear cw b2 ez D aw bT cu b0)|fail)
  all_goals
    clear c6 c7 c9 df dj dr ds du dv d0 c8 c0 eg;rw[ea.out];have c1:X.cell? ⟨pb,1,U⟩=I sv:=ak.out.cell 1;have c2:X.cell? ⟨pb,2,U⟩=I (pv ah K.length ab):=ak.out.cell 2;have em:∀o,(X.alloc o).cell? ⟨pb,2,U⟩=I (pv ah K.length ab):=fun o=>ae (gQz.alloc gQx o) c2;have el:∀o,(X.alloc o).cell? ⟨pb,1,U⟩=I sv:=fun o=>ae (gQz.alloc gQx o) c1;have cd:Hid (∀o,Lot 3 1 (fun(x:Int) u _=>u=[Y O x]) (X.alloc o).drew w0.1.size sv ai):=fun o=>ak.out.starts.on gQy.drew;go_wp2_with fail
    go_region_law (first|(refine mC wB underlying88 rfl (by decide) (cd.out _) (K.length:Int) #[Y O (K.length:Int)] (by rfl) (by intro a Z;simp at Z;subst Z;rfl) (fun _ _=>rfl) (an _ _) (by omega) (by omega) (by have:=ak.out.below.size;simp;omega) rfl (by rfl) (by rfl) (by rfl) (by rfl) ?_;intro co cj aj cx cr eC;obtain⟨D,a0,bX⟩:=(ak.out.on gQy.drew).s cr cx;have c1:aj.cell? ⟨pb,1,U⟩=I sv:=aa D 1;have c2:aj.cell? ⟨pb,2,U⟩=I (pv ah K.length ab):=aa D 2;have f1:aj.frozen? ⟨pb,1,U⟩=false:=ac D 1;obtain⟨bO,b1⟩:∃W,W=aj.setCell ⟨pb,1,U⟩ (pv (I ⟨co,0,U⟩) (ai.length+1) cj):=⟨_,rfl⟩;rw[<-b1] at a0 bX;have a3:=gQq a0;have eb:=gQq b1.symm;have bl:Hid (Aside (pAs pb sv) X bO):=(af (gQy.drew) _).trans bX (fun _ _ h=>h);clear cx cr eC D a0 bX b1)|fail)
    all_goals
      clear c1 c2 el em f1 cd;rw[eb.out];have e3:bO.cell? ⟨pb,2,U⟩=I (pv ah K.length ab):=a3.out.cell 2;have fq:=bn.out.size;have fc:=bk.out.size;have fi:=bl.out.size;have e7:=A.out.lt;have d8:Hid (At bO q bc):=by
        refine Has.here (((bj.out.aside bk.out (fun i y J=>?_)).aside bl.out (fun i y J=>?_)))
        · have:=(bj.out.lt i y).1;rcases J with J | J
          · omega
          · have:=(A.out.frames.lt i J).2;omega
        · have:=(bj.out.lt i y).1;rcases J with J | J
          · omega
          · have:=(A.out.starts.lt i J).2;omega
      go_wp2_with (first|(at_builtin;refine aD a3.out.bytes d8.out (by omega) a3.out.below.size rfl rfl rfl rfl rfl ?_;intro e2 e1 en w4 ec cv cs _;obtain⟨D,cp,cq⟩:=a3.out.b cs cv;have e4:w4.cell? ⟨pb,2,U⟩=I (pv ah K.length ab):=aa D 2;have e6:w4.frozen? ⟨pb,2,U⟩=false:=ac D 2;have d3:=gQq cq;have d2:=gQq cp;clear cv cs D cp cq)|fail)
      go_end0;have ep:Aside (fun i=>i=pb∨fv.ownBlock=I i∨sv.ownBlock=I i∨(pv ah K.length ab).ownBlock=I i) w X:=((af bn.out _).trans bk.out (fun i _ y=>y.elim AZ (fun h=>AX (AZ h))));have eq:=ep.trans bl.out (fun i _ y=>y.elim AZ (fun h=>AX (AX (AZ h))));exact⟨rfl,pv (I ⟨cn,0,U⟩) (fs.length+1) ci,pv (I ⟨co,0,U⟩) (ai.length+1) cj,pv e1 e2.length en,by rw[cc.out,bN.out,<-ec.out];exact d2.out,eq.trans d3.out (fun i _ y=>y.elim AZ (fun h=>AX (AX (AX h))))⟩
end
end
section
open Go.RowKit Go.Maps
theorem Wr.bytes_most(l:List Fr):(Wr.bytes l).length<=2202*l.length:=by
 induction l with
 |nil=>simp[Wr.bytes]
 |cons f l ih=>
  have y:=Wr.out_most f;have o:Wr.bytes (f::l)=Fr.out f++Wr.bytes l:=by simp[Wr.bytes]
  rw[o,AH,AI];omega
theorem xL{q:Nat}(o:p<=2097152)(y:q<=100000):IntKind.i64.wrap ((p:Int)+(q:Int))=(p:Int)+(q:Int):=by
 rw[IntKind.wrap_i64];omega
section
variable {w w':AU} {B a g m M n n' N:Nat} {v e e':AA} {x k:Nat} {gm gm':Int->Option AA} {q:OA} {cap:Nat} {z:Wr} {k':Wk} {E G:Nat->Prop} {fv sv bv:AA} {fs:List Fr}
theorem KWr.walked(h:KWr w B a g m M n v e x k gm q cap z E)(Z:av w' B m M n' e' gm' k' (fun i=>(i=a∨i=g∨v.ownBlock=I i)∨E i))(D:Aside (bA m M e) w w')(X:∀i,e'.ownBlock=I i->e.ownBlock=I i∨w.1.size<=i):KWr w' B a g m M n' v e' x k gm' q cap ⟨z.s,k',z.c,z.up⟩ E:=by
 have J:∀i,((i=a∨i=g∨v.ownBlock=I i)∨E i)->¬bA m M e i:=fun i o y=>by
  obtain⟨A,K,Q⟩:=h.walk.off i o;rcases y with y | y | y
  ·exact A y
  ·exact K y
  ·exact Q y
 refine⟨(D.block a h.lt (J a (AZ (AZ rfl)))).trans h.lies,h.dev.aside D (J g (AZ (AX (AZ rfl)))) (fun i o=>J i (AZ (AX (AX o)))),Z,h.base,h.room,h.good,h.calm.step (D.mono fun i _ o=>AX o) (fun i o=>?_)⟩;rcases o with o | o | o | o
 ·exact AZ (AZ o)
 ·exact AZ (AX (AZ o))
 ·exact AZ (AX (AX (AZ o)))
 ·rcases X i o with A | A
  ·exact AZ (AX (AX (AX A)))
  ·exact AX A
theorem KWr.ge(h:KWr w B a g m M n v e x k gm q cap z E):∀i,((i=g∨v.ownBlock=I i)∨bA m M e i)->B<=i:=fun i o=>by
 rcases o with (o | o) | o | o | o
 ·rw[o];exact h.dev.base
 ·exact(h.dev.has.lt i o).1
 ·rw[o];exact h.walk.base.1
 ·rw[o];exact h.walk.base.2
 ·exact(h.walk.ents.lt i o).1
structure Pw(w:AU)(N:Nat)(fv sv bv:AA)(G:Nat->Prop)(fs:List Fr):Prop where
 frames:Lot 52 11 (iS G) w N fv fs
 starts:Lot 3 1 (fun(x:Int) u _=>u=[Y O x]) w N sv (Wr.starts fs)
 bytes:Has w N bv (Wr.bytes fs)
 all:∀i,N<=i->G i
theorem Pw.aside{F:Nat->Prop}(h:Pw w N fv sv bv G fs)(D:Aside F w w')(Z:∀i,F i->G i)(J:∀i,F i->i<N∨(fv.ownBlock≠I i∧sv.ownBlock≠I i∧bv.ownBlock≠I i)):Pw w' N fv sv bv G fs:=by
 refine⟨h.frames.aside D (fun i o A=>?_) (fun x u K ah Q ab X=>?_),h.starts.aside D (fun i o A=>?_) (fun _ _ K _ _=>K.here),h.bytes.aside D (fun i o A=>?_),h.all⟩
 ·have:=h.frames.lt i o;rcases J i A with y | y
  ·omega
  ·exact y.1 o
 ·exact K.here ab (((D.mono (fun i _ o=>Z i o)).trans Q (fun i _ o=>h.all i (h.frames.lt i o).1)).trans X (fun _ _ o=>o))
 ·have:=h.starts.lt i o;rcases J i A with y | y
  ·omega
  ·exact y.2.1 o
 ·have:=h.bytes.lt i o;rcases J i A with y | y
  ·omega
  ·exact y.2.2 o
theorem Pc.pw{w0:AU}{pb:Nat}(h:Pc w0 w pb fv sv bv G fs (Wr.starts fs) (Wr.bytes fs)):Pw w w0.1.size fv sv bv G fs:=⟨h.frames,h.starts,h.bytes,h.all⟩
structure Wrote(w:AU)(B a g m M n d:Nat)(v e:AA)(q:OA)(cap:Nat)(z':Wr)(E:Nat->Prop)(w':AU):Prop where
 out:∃v' e' x' k' gm',KWr w' B a g m M (n+d) v' e' x' k' gm' q cap z' E∧(∀i,v'.ownBlock=I i->v.ownBlock=I i∨w.1.size<=i)∧∀i,e'.ownBlock=I i->e.ownBlock=I i∨w.1.size<=i
 aside:Aside (fun i=>(i=g∨v.ownBlock=I i)∨bA m M e i) w w'
structure L19(w1:AU)(B a g m M n:Nat)(v e:AA)(x k:Nat)(q:OA)(cap:Nat)(s:Dv.St)(k0:Wk)(c:List Col)(up:Bool)(E:Nat->Prop)(ln N:Nat)(fv sv bv:AA)(G:Nat->Prop)(fs:List Fr)(pb i:Nat)(wr:AU):Prop where
 out:∃e' gm',KWr wr B a g m M (n+i) v e' x k gm' q cap ⟨s,Wr.takes k0 (ln:Nat) (fs.take i),c,up⟩ E∧∀j,e'.ownBlock=I j->e.ownBlock=I j∨w1.1.size<=j
 pw:Pw wr N fv sv bv G fs
 lies:wr.1[pb]?=I (wx #[fv,sv,bv] 90 (0,0))
 aside:Aside (bA m M e) w1 wr
theorem pX(h:KWr w B a g m M n v e x k gm q cap z E)(dv:Pw w N fv sv bv G fs)(er:∀i,((i=g∨v.ownBlock=I i)∨bA m M e i)->G i)(ci:∀i,((i=g∨v.ownBlock=I i)∨bA m M e i)->i<N)(f0:Hv w)(ho:2<B)(bO:∀f∈fs,f.wf)(hM:fs.length<=10)(hO:n<900000000)(fo:z.s.safe<=z.s.b.length)(du:z.s.b.length<=2097152)(fc:z.s.most<=1048576)(e0:z.s.done<4611686018425290752):
  Calls AE 37 #[qq (I ⟨a,0,U⟩),.agg #[fv,sv,bv]] w fun c5 w1=>c5=wv (Y O ((z.write fs).1:Nat))∧Wrote w B a g m M n fs.length v e q cap (z.write fs).2 E w1:=by
 obtain⟨Q,bn⟩:∃Q,Q=w.alloc (wx #[fv,sv,bv] 90):=⟨_,rfl⟩;have co:AC w.1.size w Q:=by rw[bn];exact gQy
 have bT:=h.on co;have g7:N<=w.1.size∨fs=[]:=by
  cases hfs:fs with
  |nil=>exact AX rfl
  |cons f r=>
   left;have hj:0<fs.length:=(by rw[hfs];simp);obtain⟨en,hI,u1,D,_,bX,eq,_⟩:=dv.frames.cell 0 hj;omega
 have b3:Pw Q N fv sv bv G fs:=dv.aside (F:=fun _=>False) (af co _) (fun _ hc=>hc.elim) (fun _ hc=>hc.elim);obtain⟨ab,Z,rfl,dj,-⟩:=b3.bytes.at;have hR:Q.1.size=w.1.size+1:=by rw[bn];simp
 have ev:B<=Q.1.size:=by have:=h.lt;have:=h.base;omega
 obtain⟨K,bb⟩:∃K,K=Wr.bytes fs:=⟨_,rfl⟩;have f6:=gQq Wr.bytes_most;have hL:K.length<=100000:=by
  have:=Wr.bytes_most fs;rw[bb];omega
 have cy:Hid (Calls AE 59 #[qq (I ⟨g,0,U⟩),pv ab K.length Z] Q.drew (cV Q B g v (Dv.write z.s K))):=by
  rw[<-bb] at dj;have hd:AC Q.1.size Q Q.drew:=gQz.drew;refine(yg (bT.dev.below hd) ab Z K (by omega) (dj.on hd) (fun hP b o hl hc=>?_) fo du fc e0 ev).mono fun _ w' ⟨D,v',hr,k',bX,eq,g4⟩=>⟨D,v',hr,k',bX,(af hd _).trans eq (fun _ _ h=>h),g4⟩;have e5:=b3.bytes;rw[<-bb] at e5;have:=e5.place b o hl;rcases hc with hc | hc
  ·have:=ci g (AZ (AZ rfl));omega
  ·have:=ci b (AZ (AX hc));omega
 have cv:=gQq (lG bT.dev);obtain⟨r,d0⟩:∃r,r=Dv.write z.s K:=⟨_,rfl⟩;have cc:Hid (z.write fs=if r.1≠0 then (r.1,⟨r.2,z.k,z.c,z.up⟩) else (0,⟨r.2,Wr.takes z.k (z.s.b.length:Nat) fs,z.c,z.up⟩)):=by rw[d0,bb];rfl
 rw[<-d0] at cy;have d2:(Wr.starts fs).length=fs.length:=Wr.starts_len fs;have ak:Q.1[w.1.size]?=I (wx #[fv,sv,pv ab K.length Z] 90 (0,0)):=by rw[bn,bb];exact an w _
 rw[<-bb] at bn b3 ⊢;have ec:=gQq ak;have gs:=gQq bn.symm;have d9:=gQq bT;have cx:=gQq b3;have cb:=gQq co;have gd:=gQq f0;have gz:=gQq bO;have d8:=gQq er;have eg:=gQq ci;have ah:=gQq h;obtain⟨a2,e9⟩:∃a2,a2=z.s.b.length:=⟨_,rfl⟩;rw[<-e9] at cv cc du;have c0:Q.cell? ⟨a,0,U⟩=I (qq (I ⟨g,0,U⟩)):=bT.cell 0;have p2:Q.cell? ⟨w.1.size,2,U⟩=I (pv ab K.length Z):=aa ak 2;have gN:∀o,(w.alloc o).cell? ⟨a,0,U⟩=I (qq (I ⟨g,0,U⟩)):=fun o=>ae (gQz.alloc gQx o) (h.cell 0);have hK:=h.lt;clear h dv bT b3 co bn d0 bb dj f0 bO er ci ak fo e0 fc e9 ev;go_enter func37,ntmps37;go_wp2_with fail;rw[gs.out];refine cv.out.mono ?_;rintro c5 w1 ⟨rfl,cs⟩;rw[cs];clear cs w1 cv gN;go_wp2_with fail;have e4:g<w.1.size:=ah.out.dev.lt;have f2:∀i,v.ownBlock=I i->i<w.1.size:=fun i hi=>(ah.out.dev.has.lt i hi).2;have gb:=gQq e4;have gq:=gQq f2;clear e4 f2
 go_region_held3 (fun w'=>w'.cell? ⟨a,0,U⟩=I (qq (I ⟨g,0,U⟩))∧w'.cell? ⟨w.1.size,2,U⟩=I (pv ab K.length Z)) (go_keep) (first|(go_at_call 59;refine cy.out.mono ?_;rintro c5 w1 ⟨rfl,b8,b9,b5,eL,ck,d4⟩;have D:=d9.out.filed eL ck d4;have c0:w1.cell? ⟨a,0,U⟩=I (qq (I ⟨g,0,U⟩)):=D.cell 0;have bp:=(ck.block w.1.size (by omega) (fun hc=>hc.elim (fun hc=>by have:=gb.out;omega) (fun hc=>by have:=gq.out _ hc;omega))).trans ec.out;have p2:w1.cell? ⟨w.1.size,2,U⟩=I (pv ab K.length Z):=aa bp 2;have ai:=gQq D;have a3:=gQq ck;have el:=gQq d4;have cu:=gQq bp;clear eL ck d4 D bp)|fail)
 clear cy;by_cases cr:r.1=0
 ·have ct:=gQq (cc.out.trans (AF (fun hc=>hc cr)));rw[cr,show((0:Nat):Int)=0 from rfl];have hT:w1.cell? ⟨w.1.size,0,U⟩=I fv:=aa cu.out 0;obtain⟨c8,c7,rfl,-⟩:=cx.out.frames.form;obtain⟨d5,b7,rfl,-⟩:=cx.out.starts.form;have a4:Hid (Pw w1 N (pv c8 fs.length c7) (pv d5 (Wr.starts fs).length b7) (pv ab K.length Z) G fs):=cx.out.aside a3.out (fun i hi=>d8.out i (AZ hi)) (fun i hi=>AZ (eg.out i (AZ hi)));rw[d2] at a4 cu ec ⊢;obtain⟨fv,b2⟩:∃fv,fv=pv c8 fs.length c7:=⟨_,rfl⟩;obtain⟨sv,a1⟩:∃sv,sv=pv d5 fs.length b7:=⟨_,rfl⟩;have eb:Hid (L19 w1 B a g m M n b8 e b9 b5 q cap r.2 z.k z.c z.up E a2 N fv sv (pv ab K.length Z) G fs w.1.size 0 w1):=⟨⟨e,gm,ai.out,fun i hi=>AZ hi⟩,by rw[b2,a1];exact a4.out,by rw[b2,a1];exact cu.out,Aside.refl _ _⟩;have f8:Hid (AC B w w1):=((cb.out.mono (by have:=ah.out.lt;have:=ah.out.base;omega)).trans (a3.out.below (by have:=ah.out.lt;have:=ah.out.base;omega) (fun i hi hc=>by have:=ah.out.ge i (AZ hc);omega)));have gn:Hid (∀i,sv.ownBlock=I i->N<=i∧i<w1.1.size):=fun i hi=>a4.out.starts.lt i (by rw[<-a1];exact hi);have cw:Hid ((∀i,fv.ownBlock=I i->i<w1.1.size)∧(∀i,sv.ownBlock=I i->i<w1.1.size)∧∀i,(pv ab K.length Z).ownBlock=I i->i<w1.1.size):=⟨fun i hi=>(a4.out.frames.lt i (by rw[<-b2];exact hi)).2,fun i hi=>(a4.out.starts.lt i (by rw[<-a1];exact hi)).2,fun i hi=>(a4.out.bytes.lt i hi).2⟩;have bk:Hid (∀i,bA m M e i->i<N∧G i):=fun i hi=>⟨eg.out i (AX hi),d8.out i (AX hi)⟩
  have f9:Hid (∀i,bA m M e i->B<=i):=fun i hi=>ah.out.ge i (AX hi);have g6:B<=w1.1.size:=by have:=ah.out.lt;have:=ah.out.base;have:=cb.out.size;have:=a3.out.size;omega
  have f7:Hid (∀i,(Wr.bytes (fs.take i)).length<=100000):=fun i=>by
   have:=f6.out (fs.take i);rw[AM] at this;omega
  clear c0 p2 cr cc d9 a4 ai;go_wp2_with fail;go_loopw [27] (fun d6 wr=>∃i:Nat,i<=fs.length∧d6=Y O i∧Hid (L19 w1 B a g m M n b8 e b9 b5 q cap r.2 z.k z.c z.up E a2 N fv sv (pv ab K.length Z) G fs w.1.size i wr)) (fun d6 _=>fs.length-(intOf d6).toNat);case atStart=>exact⟨0,by omega,rfl,eb⟩
  case round=>
   obtain⟨i,hi,rfl,ea⟩:=hrel;clear eb;by_cases be:i<fs.length
   ·have en:(i:Int)<(fs.length:Int):=(by omega);obtain⟨⟨cd,ep,a0,bc⟩,bN,ak,a9⟩:=ea.out;obtain⟨c9,g0,us,e2,-,he,hf,hn,ez,ds⟩:=bN.frames.cell i be;obtain⟨f,dr⟩:∃f,f=fs[i]:=⟨_,rfl⟩;have b4:=Wr.takes_snoc f (fs.take i) z.k (a2:Nat);rw[dr,<-List.take_succ_eq_append_getElem be] at b4;have bO:=gz.out _ (Aw be);rw[<-dr] at b4 ds bO;have b1:cm wr us.toArray f:=ds wr (Aside.refl _ _);obtain⟨sp,bi,a6,a5,a8,a7,d3,-⟩:=b1.out;rw[d3] at b1;have fy:us=(aF f.kind f.number sp f.cols.length bi f.seq f.first f.rows a6 f.block.length a5 f.index.at_ f.index.frames f.index.rows a8 f.index.entries.length a7).toList:=(by rw[<-d3]);have X:∀m,m<11->wr.cell? ⟨c9,i*11+m,U⟩=(aF f.kind f.number sp f.cols.length bi f.seq f.first f.rows a6 f.block.length a5 f.index.at_ f.index.frames f.index.rows a8 f.index.entries.length a7).toList[m]?:=fun m hk=>by rw[<-fy];exact ez m hk
    unfold aF at b1 X;obtain⟨aj,g1,hq,d1,-,hg,e3,-,eC,fq⟩:=bN.starts.cell i (by rw[d2];exact be);have cp:=eC 0 (by omega);rw[fq,Wr.starts_get] at cp;have ew:(Wr.bytes (fs.take i)).length<=100000:=f7.out i;obtain⟨bj,fx⟩:∃bj:Nat,bj=(Wr.bytes (fs.take i)).length:=⟨_,rfl⟩;rw[<-fx] at cp ew b4;obtain⟨bl,cj⟩:∃W,W=wr.alloc (wx #[Y O f.kind,Y O f.number,pv sp f.cols.length bi,Y O f.seq,Y O f.first,Y O f.rows,pv a6 f.block.length a5,Y O f.index.at_,Y O f.index.frames,Y O f.index.rows,pv a8 f.index.entries.length a7] 52):=⟨_,rfl⟩;have b0:AC wr.1.size wr bl:=(by rw[cj];exact gQy);have aw:AC wr.1.size wr bl.drew:=b0.drew;have cq:bl.1[wr.1.size]?=I (wx #[Y O f.kind,Y O f.number,pv sp f.cols.length bi,Y O f.seq,Y O f.first,Y O f.rows,pv a6 f.block.length a5,Y O f.index.at_,Y O f.index.frames,Y O f.index.rows,pv a8 f.index.entries.length a7] 52):=(by rw[cj];exact an wr _);have g5:B<=wr.1.size:=(by have:=a9.size;omega);have f3:Hv wr:=gd.out.on (f8.out.trans (a9.below g6 (fun i hi hc=>by have:=f9.out i hc;omega))) ho;have fi:=ua (a0.walk.on aw) f bO _ (b1.on aw) ((a2:Int)+(bj:Int)) (f3.next aw) (by omega) (AT g5 aw.size);obtain⟨z0,z1,z2,z3,z4,hD,hE,hF,hG,hH,hC⟩:=cg cq;have hV:wr.cell? ⟨c9,i*11,U⟩=I (Y O f.kind):=X 0 (by omega);have hs:=X 1 (by omega);have hu:=X 2 (by omega);have hv:=X 3 (by omega);have hw:=X 4 (by omega);have hx:=X 5 (by omega);have hy:=X 6 (by omega)
    have hz:=X 7 (by omega);have hA:=X 8 (by omega);have hB:=X 9 (by omega);have ht:=X 10 (by omega);simp only[List.getElem?_cons_succ,List.getElem?_cons_zero] at hs hu hv hw hx hy hz hA hB ht;have f5:wr.cell? ⟨aj,i,U⟩=I (Y O (bj:Int)):=(by simpa using cp);have hp:=ae b0 f5;have gL:bl.cell? ⟨a,1,U⟩=I (qq (I ⟨m,0,U⟩)):=(a0.on b0).cell 1;have bp:=(b0.block _ (ap ak)).trans ak;have f4:bl.cell? ⟨w.1.size,1,U⟩=I sv:=aa bp 1;rw[a1] at f4;have hfe2:pv c8 fs.length c7=pv (I ⟨c9,0,U⟩) fs.length g0:=b2.symm.trans e2;injection hfe2 with hfq hq1 hq2;have hm:pv d5 fs.length b7=pv (I ⟨aj,0,U⟩) (Wr.starts fs).length g1:=a1.symm.trans d1;injection hm with hsq hq3 hq4;subst hfq;subst hsq;have hh:=gn.out aj (by rw[d1];rfl);have g8:N<=w.1.size:=g7.resolve_right (fun hc=>by rw[hc] at be;simp at be);have cs:w.1.size<w1.1.size:=(by have:=a3.out.size;omega);have bq:∀j,bA m M cd j->(j<N∨w1.1.size<=j)∧j<wr.1.size:=fun j A=>by
     refine⟨?_,a0.low j (AX A)⟩;rcases A with A | A | A
     ·exact AZ (bk.out j (AZ A)).1
     ·exact AZ (bk.out j (AX (AZ A))).1
     ·rcases bc j A with D | D
      ·exact AZ (bk.out j (AX (AX D))).1
      ·exact AX D
    have hS:(0:Int)<=(i:Int):=(by omega);have gl:Hid (∀y:Int,y=(a2:Int)+(bj:Int)->Calls AE 30 #[qq (I ⟨m,0,U⟩),.agg #[Y O f.kind,Y O f.number,pv sp f.cols.length bi,Y O f.seq,Y O f.first,Y O f.rows,pv a6 f.block.length a5,Y O f.index.at_,Y O f.index.frames,Y O f.index.rows,pv a8 f.index.entries.length a7],Y O y] bl.drew fun c6 J=>(∃em:Int,c6=wv (Y O em))∧(J.cell? ⟨a,1,U⟩=I (qq (I ⟨m,0,U⟩))∧J.cell? ⟨w.1.size,1,U⟩=I (pv (I ⟨aj,0,U⟩) fs.length b7)∧J.cell? ⟨aj,i,U⟩=I (Y O (bj:Int))∧J.cell? ⟨wr.1.size,0,U⟩=I (Y O f.kind)∧J.cell? ⟨wr.1.size,1,U⟩=I (Y O f.number)∧J.cell? ⟨wr.1.size,2,U⟩=I (pv sp f.cols.length bi)∧J.cell? ⟨wr.1.size,3,U⟩=I (Y O f.seq)∧J.cell? ⟨wr.1.size,4,U⟩=I (Y O f.first)∧J.cell? ⟨wr.1.size,5,U⟩=I (Y O f.rows)∧J.cell? ⟨wr.1.size,6,U⟩=I (pv a6 f.block.length a5)∧J.cell? ⟨wr.1.size,7,U⟩=I (Y O f.index.at_)∧J.cell? ⟨wr.1.size,8,U⟩=I (Y O f.index.frames)∧J.cell? ⟨wr.1.size,9,U⟩=I (Y O f.index.rows)∧J.cell? ⟨wr.1.size,10,U⟩=I (pv a8 f.index.entries.length a7))∧L19 w1 B a g m M n b8 e b9 b5 q cap r.2 z.k z.c z.up E a2 N fv sv (pv ab K.length Z) G fs w.1.size (i+1) J):=by
     rintro y rfl;refine fi.mono ?_;rintro c6 J ⟨rfl,⟨g2,g3,hk4,df,e1⟩⟩;have e6:=(a0.on aw).walked hk4 df e1;have cn:Aside (bA m M cd) wr J:=(af aw _).trans df (fun _ _ h=>h);have e8:=(cn.block w.1.size (ap ak) (fun hc=>by have:=(bq _ hc).1;omega)).trans ak;have ha:=(df.block wr.1.size (ap cq) (fun hc=>by have:=(bq _ hc).2;omega)).trans cq;refine⟨⟨_,rfl⟩,⟨e6.cell 1,by rw[<-a1];exact aa e8 1,?_,cg ha⟩,⟨g2,g3,by rw[b4];exact e6,fun j A=>?_⟩,bN.aside cn (fun j A=>?_) (fun j A=>?_),e8,a9.trans cn (fun j A hc=>?_)⟩
     ·have:=cn.cell (p:=⟨aj,i,U⟩) e3 (fun hc=>by have:=(bq aj hc).1;omega);rw[this];exact f5
     ·rcases e1 j A with D | D
      ·exact bc j D
      ·exact AX (by have:=aw.size;have:=a9.size;omega)
     ·rcases(bq j A).1 with D | D
      ·rcases A with A | A | A
       ·exact(bk.out j (AZ A)).2
       ·exact(bk.out j (AX (AZ A))).2
       ·rcases bc j A with bX | bX
        ·exact(bk.out j (AX (AX bX))).2
        ·exact bN.all j (by omega)
      ·exact bN.all j (by omega)
     ·rcases(bq j A).1 with D | D
      ·exact AZ D
      ·exact AX ⟨fun hc=>by have:=cw.out.1 j hc;omega,fun hc=>by have:=cw.out.2.1 j hc;omega,fun hc=>by have:=cw.out.2.2 j hc;omega⟩
     ·rcases hc with hc | hc | hc
      ·exact AZ hc
      ·exact AX (AZ hc)
      ·rcases bc j hc with D | D
       ·exact AX (AX D)
       ·omega
    have gt:=gQq cj.symm;have hN:Hid True:=trivial;clear fi bq hh g8 cs a0 bc bN ak a9 ds b1 d3 fy X ez fq eC cp cq aw b0 bp cj b4 f3 bO e2 d1 fx dr b2 a1 d2 hn he hg hf e3 us hq hq1 hq2 hq3 hq4;go_wp2_with fail;rw[gt.out]
    go_region_held3 (fun w'=>w'.cell? ⟨a,1,U⟩=I (qq (I ⟨m,0,U⟩))∧w'.cell? ⟨w.1.size,1,U⟩=I (pv (I ⟨aj,0,U⟩) fs.length b7)∧w'.cell? ⟨aj,i,U⟩=I (Y O (bj:Int))∧w'.cell? ⟨wr.1.size,0,U⟩=I (Y O f.kind)∧w'.cell? ⟨wr.1.size,1,U⟩=I (Y O f.number)∧w'.cell? ⟨wr.1.size,2,U⟩=I (pv sp f.cols.length bi)∧w'.cell? ⟨wr.1.size,3,U⟩=I (Y O f.seq)∧w'.cell? ⟨wr.1.size,4,U⟩=I (Y O f.first)∧w'.cell? ⟨wr.1.size,5,U⟩=I (Y O f.rows)∧w'.cell? ⟨wr.1.size,6,U⟩=I (pv a6 f.block.length a5)∧w'.cell? ⟨wr.1.size,7,U⟩=I (Y O f.index.at_)∧w'.cell? ⟨wr.1.size,8,U⟩=I (Y O f.index.frames)∧w'.cell? ⟨wr.1.size,9,U⟩=I (Y O f.index.rows)∧w'.cell? ⟨wr.1.size,10,U⟩=I (pv a8 f.index.entries.length a7)) (go_keep) (first|(go_at_call 30;refine(gl.out _ (xL du ew)).mono ?_;rintro c6 J ⟨⟨em,rfl⟩,⟨gL,f4,hp,z0,z1,z2,z3,z4,hD,hE,hF,hG,hH,hC⟩,e7⟩;have gh:=gQq e7;clear e7)|fail)
    go_wp2;go_roundw;case rel=>exact⟨i+1,by omega,by go_num,gh⟩
    case measure=>simp[intOf];omega
   ·have en:¬(i:Int)<(fs.length:Int):=(by omega);obtain rfl:i=fs.length:=by omega
    clear be hi;go_wp2;go_ret;obtain⟨⟨cd,ep,a0,bc⟩,-,-,a9⟩:=ea.out;rw[List.take_length] at a0;rw[ct.out];have hQ:=a3.out.size;refine⟨rfl,⟨b8,cd,b9,b5,ep,a0,fun i hi=>(el.out i hi).imp id (fun h=>by omega),fun i hi=>(bc i hi).imp id (fun h=>by omega)⟩,(((af cb.out _).trans a3.out (fun i _ hi=>AZ hi)).trans a9 (fun i _ hi=>AX hi))⟩
 ·have hJ:((r.1:Int) != 0)=true:=by rw[bne_iff_ne];omega
  have ct:=gQq (cc.out.trans (AG cr));go_wp2;go_ret;rw[ct.out];refine⟨rfl,⟨b8,e,b9,b5,gm,⟨ai.out.lies,ai.out.dev,ai.out.walk.more (Nat.le_add_right _ _),ai.out.base,ai.out.room,ai.out.good,ai.out.calm⟩,fun i hi=>(el.out i hi).imp id (fun h=>by omega),fun i hi=>AZ hi⟩,((af cb.out _).trans a3.out (fun i _ hi=>hi)).mono (fun i _ hi=>AZ hi)⟩
end
end
section
open Go.RowKit Go.Maps
theorem lw{s:List Col}{l:List (List V)}(h:(Bt.pack s l).err=0):l.length<=64∧(Bt.pack s l).out.length<=2049:=by
 unfold Bt.pack at h ⊢;split at h
 ·next h0=>
  rw[AG h0];unfold Bt.err at h0;split at h0
  ·omega
  ·next h1=>
   split at h0
   ·omega
   ·split at h0
    ·omega
    ·next h3=>
     have o:Bt.numErr s l.length=0:=(by omega);unfold Bt.numErr at o;split at o
     ·omega
     ·split at o
      ·omega
      ·split at o
       ·omega
       ·have:=(Blk.pack_back (b:=Bt.bytes l) (by omega)).2.2;exact⟨by omega,by omega⟩
 ·next h0=>exact absurd h h0
theorem yL{fn:Func}{R:Ending->AU->Prop}{a:Act}{W:AU}{q u:Tmp}{o:AV}{fr:Nat×Nat}{x:AA}(h:fn.results=#[.cell q 90,.tmp u])(D:a.tmps.getD q undef=qq (I ⟨g,0,U⟩))(K:a.tmps.getD u undef=x)(hd:a.defers=[])(A:W.1[g]?=I (wx o T fr))(J:o.size=3)(y:R (wv (.tuple #[.agg o,x])) W):bodyPost AE fn R .ret a W:=by
 refine bodyPost_ret (eu h _ _ g _ _ _ _ D A underlying90 rfl ?_) hd (by rw[K];exact y);rw[J]
 kernel_rfl
def zo(w:AU)(g:Nat)(x y z:AA):World:=((w.setCell ⟨g,0,U⟩ x).setCell ⟨g,1,U⟩ y).setCell ⟨g,2,U⟩ z
theorem ie{y A z0 x o z:AA}(h:w.1[g]?=I (wx #[y,A,z0] T (0,0))):(zo w g x o z).1[g]?=I (wx #[x,o,z] T (0,0)):=bV (bV (bV h 0 x) 1 o) 2 z
theorem dI(w:AU)(g:Nat)(x o z:AA):Aside (fun i=>i=g) w (zo w g x o z):=(((Aside.refl (fun i=>i=g) w).setCell (p:=⟨g,0,U⟩) (AZ rfl) _).setCell (p:=⟨g,1,U⟩) (AZ rfl) _).setCell (p:=⟨g,2,U⟩) (AZ rfl) _
theorem xR{n:Int}{c:List Col}(J:Fr.i64 n)(A:∀x∈c,x.wf):(Wr.sFr n c).wf :=
 have o:Fr.i64 0:=⟨by decide,by decide⟩;have y:Fr.i64 1:=⟨by decide,by decide⟩
 ⟨y,J,A,o,o,o,⟨o,o,o⟩,fun e (D:e∈([]:List Ent))=>by cases D⟩
theorem yP{n q f r:Int}{b:L8}(J:Fr.i64 n)(K:Fr.i64 q)(D:Fr.i64 f)(Q:Fr.i64 r):(Wr.dFr n q f r b).wf :=
 have o:Fr.i64 0:=⟨by decide,by decide⟩;have y:Fr.i64 2:=⟨by decide,by decide⟩
 ⟨y,J,fun _ X=>(List.not_mem_nil X).elim,K,D,Q,⟨o,o,o⟩,fun _ A=>(List.not_mem_nil A).elim⟩
section
variable {w w':AU} {B a g m M n:Nat} {v e:AA} {x k:Nat} {gm:Int->Option AA} {q:OA} {cap:Nat} {z:Wr} {E:Nat->Prop} {L:List (List V)} {rq:OA} {rd:Nat}
theorem KWr.number64(h:KWr w B a g m M n v e x k gm q cap z E):Fr.i64 z.number:=by
 have o:=h.walk.good.number;unfold Wr.number;split
 ·split
  ·exact⟨by omega,by omega⟩
  ·exact⟨by omega,by omega⟩
 ·exact⟨by omega,by omega⟩
def Au(w:AU)(a g:Nat)(v:AA)(m M:Nat)(e:AA)(E:Nat->Prop)(r:Except Nat (List Fr))(e1:Ending)(w1:AU):Prop:=AC w.1.size w w1∧match r with
 |.error er=>e1=wv (.tuple #[.agg #[pv U 0 0,pv U 0 0,pv U 0 0],Y O (er:Nat)])
 |.ok fs=>∃fv sv bv N G,e1=wv (.tuple #[.agg #[fv,sv,bv],Y O 0])∧w.1.size<=N∧Pw w1 N fv sv bv G fs∧(∀i,kf a g v m M e E i->G i)∧(∀f∈fs,f.wf)∧fs.length<=2
theorem jR(h:KWr w B a g m M n v e x k gm q cap z E)(c5:cQ w rq rd L)(d0:Hv w):
  Calls AE 34 #[qq (I ⟨a,0,U⟩),pv rq L.length rd] w (Au w a g v m M e E (z.piece L)):=by
 obtain⟨ah,a9⟩:∃ah,ah=w.alloc (wx #[pv U 0 0,pv U 0 0,pv U 0 0] 90):=⟨_,rfl⟩;have a6:AC w.1.size w ah:=by rw[a9];exact gQy
 have bT:=h.on a6;have A:=gQq bT;have d3:=gQq h.low;have d1:=gQq h;have Z:=gQq a6;have cp:=gQq a9.symm;have dj:ah.1[w.1.size]?=I (wx #[pv U 0 0,pv U 0 0,pv U 0 0] 90 (0,0)):=by rw[a9];exact an w _
 have a0:=gQq dj;have c7:ef ah q cap z.c:=by
  have:=h.room;have K:=bT.calm ah (Aside.refl _ _);exact⟨this.2,this.1,K,fun x ez=>(h.good.2 x ez).2⟩
 have bn:=gQq (xZ xS z.c q cap L rq rd ah c7 (c5.on a6));have aw:Hid (z.piece L=if (Bt.pack z.c L).err≠0 then .error (Bt.pack z.c L).err else .ok ((if z.due=true then [Wr.sFr z.number z.c] else [])++[Wr.dFr z.number z.k.frames z.k.rows (L.length:Nat) (Bt.pack z.c L).out])):=rfl;have co:Hid ((Bt.pack z.c L).err=0->L.length<=64∧(Bt.pack z.c L).out.length<=2049):=lw;obtain⟨r,du⟩:∃r,r=Bt.pack z.c L:=⟨_,rfl⟩;rw[<-du] at bn aw co;obtain⟨R,c6⟩:∃R,R=z.piece L:=⟨_,rfl⟩;rw[<-c6] at aw ⊢;have ec:∀o,(w.alloc o).cell? ⟨a,2,U⟩=I (pv q z.c.length cap):=fun o=>ae (gQz.alloc gQx o) (h.cell 2);have bk:=gQq (d0.next a6);clear h bT c7 c5 du c6 d0 a9 a6 dj;go_enter func34,ntmps34;go_wp2_with fail;rw[cp.out];refine bn.out.mono ?_;rintro e8 w1 ⟨ct,e5,cs,rfl,rfl,c9,c8⟩;have b9:=gQq c9;have HB1:=gQq c8;clear c9 c8 bn ec;by_cases a7:r.err=0
 ·have a5:=gQq (aw.out.trans (AF (fun K=>K a7)));rw[a7,show((0:Nat):Int)=0 from rfl];have d6:=gQq a7;clear aw a7;obtain⟨fq,fx⟩:=co.out d6.out;obtain⟨cr,bb⟩:∃W,W=w1.alloc (wx #[pv U 0 0,pv U 0 0,pv U 0 0] 90):=⟨_,rfl⟩;have bc:AC w1.1.size w1 cr:=by rw[bb];exact gQy
  have f4:=HB1.out.size;have f3:ah.1.size=w.1.size+1:=by rw[<-cp.out];simp
  obtain⟨G,a2⟩:∃G:Nat->Prop,G=fun i=>kf a g v m M e E i∨i=w.1.size∨w1.1.size<=i:=⟨_,rfl⟩;have ds:Pc w1 cr w1.1.size (pv U 0 0) (pv U 0 0) (pv U 0 0) G [] [] []:=⟨by rw[bb];exact an w1 _,gQx,i8 _ _,i8 _ _,bG _ _,bc,fun i D=>by rw[a2];exact AX (AX D)⟩;have dr:∀i,kf a g v m M e E i->i<w.1.size:=fun i D=>by
   have:=d3.out i D;omega
  -- the frames lie still
  have dv:∀W,AC w1.1.size w1 W->iS G (Wr.sFr z.number z.c) (aF 1 z.number q z.c.length cap 0 0 0 U 0 0 0 0 0 U 0 0).toList W:=fun W hb w' bX=>by
   have ep:=(Z.out.trans (HB1.out.mono Z.out.size)).trans (hb.mono (by omega));have eq:=d1.out.calm w' ((af ep _).trans bX (fun i D a3=>by
    rw[a2] at a3;rcases a3 with a3 | a3 | a3
    ·exact a3
    ·omega
    ·omega))
   exact⟨q,cap,U,0,U,0,rfl,A.out.room.2,A.out.room.1,eq,by simp[Wr.sFr],by simp[Wr.sFr],AZ rfl,by simp[Wr.sFr,jY],by simp[Wr.sFr,jY],jD _ _⟩
  have df:∀W,AC w1.1.size w1 W->iS G (Wr.dFr z.number z.k.frames z.k.rows (L.length:Nat) r.out) (aF 2 z.number U 0 0 z.k.frames z.k.rows (L.length:Nat) ct r.out.length cs 0 0 0 U 0 0).toList W:=fun W hb w' bX=>by
   have er:=(b9.out.on hb).aside bX (fun i D K=>by
    rw[a2] at K;have:=b9.out.lt i D;rcases K with K | K | K
    ·have:=dr i K;omega
    ·omega
    ·omega)
   obtain⟨f5,e7,b4,en,ew⟩:=er.at;injection b4 with b4 _ hec;subst b4 hec;exact⟨U,0,ct,cs,U,0,rfl,by simp[Wr.dFr],by simp[Wr.dFr],(fun j ev=>by cases ev),by simp[Wr.dFr];omega,ew,en,by simp[Wr.dFr,jY],by simp[Wr.dFr,jY],jD _ _⟩
  have cq:Hid (Wr.sFr z.number z.c).wf:=xR A.out.number64 (fun c K=>(A.out.good.2 c K).2);have a8:Hid (Wr.dFr z.number z.k.frames z.k.rows (L.length:Nat) r.out).wf:=by
   have fy:=A.out.walk.good.frames;have f2:=A.out.walk.good.since;have f0:=A.out.walk.good.rows;exact yP A.out.number64 ⟨by omega,by omega⟩ ⟨by omega,by omega⟩ ⟨by omega,by omega⟩
  have cj:=gQq (rN ((A.out.on HB1.out).on bc));have d5:=gQq ds;have d7:=gQq dv;have cc:=gQq df;have b8:=gQq bc;have cd:Hid (∀i,kf a g v m M e E i->G i):=fun i D=>by rw[a2];exact AZ D
  have ci:Hid (G w.1.size):=by show G _;rw[a2];exact AX (AZ rfl)
  have d8:=gQq bb.symm;clear ds dv df bc bb a2 dr;go_wp2_with fail;rw[d8.out];refine cj.out.mono ?_;rintro e9 f7 ⟨rfl,b1⟩;have bi:=gQq (b8.out.trans (b1.mono b8.out.size));have cb:=gQq (yt ((A.out.on HB1.out).on bi.out));have ck:=gQq (d5.out.on b1);clear b1 cj;go_wp2_with fail;refine cb.out.mono ?_;rintro fc w4 ⟨rfl,b2⟩;have ab:=gQq (bi.out.trans (b2.mono bi.out.size));have cn:=gQq (ck.out.on b2);clear b2 cb ck;obtain⟨bO,b3⟩:∃bO,bO=z.due:=⟨_,rfl⟩;rw[<-b3] at a5 ⊢;have e4:=gQq b3;clear b3;have c2:w4.cell? ⟨a,2,U⟩=I (pv q z.c.length cap):=((A.out.on HB1.out).on ab.out).cell 2;cases bO with
  |true=>
   have bq:Hid (∀f∈[Wr.sFr z.number z.c]++[Wr.dFr z.number z.k.frames z.k.rows (L.length:Nat) r.out],f.wf):=fun f aj=>by
    rcases List.mem_append.1 aj with aj | aj
    ·rw[List.mem_singleton.1 aj];exact cq.out
    ·rw[List.mem_singleton.1 aj];exact a8.out
   have b7:=gQq (qH cn.out (Wr.sFr z.number z.c) cq.out _ (d7.out w4 ab.out) ((bk.out.next HB1.out).next ab.out) (by simp) (by simp[Wr.bytes]));go_wp2_with fail;refine b7.out.mono ?_;rintro a1 w5 ⟨rfl,fi,f6,e6,b5,-⟩;have d4:=gQq b5;have a4:=gQq b5.below;clear b5 b7;have bN:w5.cell? ⟨a,1,U⟩=I (qq (I ⟨m,0,U⟩)):=((A.out.on HB1.out).on a4.out).cell 1;have bj:=gQq (jb ((A.out.on HB1.out).on (a4.out.drew)).walk);have bp:=gQq (nu ((A.out.on HB1.out).on (a4.out.drew)).walk);have be:=gQq (qH (d4.out.on gQz.drew) (Wr.dFr z.number z.k.frames z.k.rows (L.length:Nat) r.out) a8.out _ (cc.out _ a4.out.drew) ((bk.out.next HB1.out).next a4.out.drew) (by simp) (AT (Wr.bytes_most _) (by simp)));clear c2;go_wp2_with fail
   go_region_held3 (fun w'=>w'.cell? ⟨a,1,U⟩=I (qq (I ⟨m,0,U⟩))) (go_keep) (first|(go_at_call 20;refine bj.out.mono ?_;rintro a1 w' ⟨rfl,X⟩;rw[X];clear X w')|(go_at_call 12;refine bp.out.mono ?_;rintro a1 w' ⟨rfl,X⟩;rw[X];clear X w')|(go_at_call 57;refine be.out.mono ?_;rintro a1 Q ⟨rfl,em,e0,eb,ak,b0⟩;have y:=gQq ak;have bN:Q.cell? ⟨a,1,U⟩=I (qq (I ⟨m,0,U⟩)):=((A.out.on HB1.out).on ak.below).cell 1;clear ak b0)|fail)
   all_goals
    obtain⟨el,eg,rfl,-⟩:=y.out.frames.form;obtain⟨eL,eC,rfl,-⟩:=y.out.starts.form;obtain⟨ea,d9,rfl,-,-⟩:=y.out.bytes.at;have e1:Q.cell? ⟨w1.1.size,0,U⟩=I _:=y.out.cell 0;have e2:Q.cell? ⟨w1.1.size,1,U⟩=I _:=y.out.cell 1;have e3:Q.cell? ⟨w1.1.size,2,U⟩=I _:=y.out.cell 2;have J:=(y.out.below.block _ (by omega)).trans ((HB1.out.block _ (ap a0.out)).trans a0.out);have cu:=aa J 0;have cv:=aa J 1;have cw:=aa J 2;have cx:=ac J 0;have f1:=ac J 1;have cy:=ac J 2;have bl:=gQq J;clear J;go_wp2;refine yL rfl rfl rfl rfl (ie bl.out) rfl ⟨?_,?_⟩
    ·exact((Z.out.trans (HB1.out.mono Z.out.size)).trans (y.out.below.mono (by omega))).trans ((dI Q w.1.size _ _ _).below (by have:=y.out.below.size;omega) (fun i D K=>by omega))
    ·rw[a5.out];refine⟨_,_,_,w1.1.size,G,rfl,by omega,y.out.pw.aside (dI Q w.1.size _ _ _) (fun i D=>by rw[D];exact ci.out) (fun i D=>AZ (by omega)),cd.out,bq.out,by simp⟩
  |false=>
   have bq:Hid (∀f∈([]:List Fr)++[Wr.dFr z.number z.k.frames z.k.rows (L.length:Nat) r.out],f.wf):=fun f aj=>by
    rw[List.mem_singleton.1 aj];exact a8.out
   have bN:w4.cell? ⟨a,1,U⟩=I (qq (I ⟨m,0,U⟩)):=((A.out.on HB1.out).on ab.out).cell 1;have bj:=gQq (jb ((A.out.on HB1.out).on (ab.out.drew)).walk);have bp:=gQq (nu ((A.out.on HB1.out).on (ab.out.drew)).walk);have be:=gQq (qH (cn.out.on gQz.drew) (Wr.dFr z.number z.k.frames z.k.rows (L.length:Nat) r.out) a8.out _ (cc.out _ ab.out.drew) ((bk.out.next HB1.out).next ab.out.drew) (by simp) (AT (Wr.bytes_most _) (by simp)));clear c2;go_wp2_with fail
   go_region_held3 (fun w'=>w'.cell? ⟨a,1,U⟩=I (qq (I ⟨m,0,U⟩))) (go_keep) (first|(go_at_call 20;refine bj.out.mono ?_;rintro a1 w' ⟨rfl,X⟩;rw[X];clear X w')|(go_at_call 12;refine bp.out.mono ?_;rintro a1 w' ⟨rfl,X⟩;rw[X];clear X w')|(go_at_call 57;refine be.out.mono ?_;rintro a1 Q ⟨rfl,em,e0,eb,ak,b0⟩;have y:=gQq ak;have bN:Q.cell? ⟨a,1,U⟩=I (qq (I ⟨m,0,U⟩)):=((A.out.on HB1.out).on ak.below).cell 1;clear ak b0)|fail)
   all_goals
    obtain⟨el,eg,rfl,-⟩:=y.out.frames.form;obtain⟨eL,eC,rfl,-⟩:=y.out.starts.form;obtain⟨ea,d9,rfl,-,-⟩:=y.out.bytes.at;have e1:Q.cell? ⟨w1.1.size,0,U⟩=I _:=y.out.cell 0;have e2:Q.cell? ⟨w1.1.size,1,U⟩=I _:=y.out.cell 1;have e3:Q.cell? ⟨w1.1.size,2,U⟩=I _:=y.out.cell 2;have J:=(y.out.below.block _ (by omega)).trans ((HB1.out.block _ (ap a0.out)).trans a0.out);have cu:=aa J 0;have cv:=aa J 1;have cw:=aa J 2;have cx:=ac J 0;have f1:=ac J 1;have cy:=ac J 2;have bl:=gQq J;clear J;go_wp2;refine yL rfl rfl rfl rfl (ie bl.out) rfl ⟨?_,?_⟩
    ·exact((Z.out.trans (HB1.out.mono Z.out.size)).trans (y.out.below.mono (by omega))).trans ((dI Q w.1.size _ _ _).below (by have:=y.out.below.size;omega) (fun i D K=>by omega))
    ·rw[a5.out];refine⟨_,_,_,w1.1.size,G,rfl,by omega,y.out.pw.aside (dI Q w.1.size _ _ _) (fun i D=>by rw[D];exact ci.out) (fun i D=>AZ (by omega)),cd.out,bq.out,by simp⟩
 ·have fo:((r.err:Int) != 0)=true:=by rw[bne_iff_ne];omega
  have a5:=gQq (aw.out.trans (AG a7));have ai:=(HB1.out.block _ (ap a0.out)).trans a0.out;have cu:=aa ai 0;have cv:=aa ai 1;have cw:=aa ai 2;have cx:=ac ai 0;have f1:=ac ai 1;have cy:=ac ai 2;clear aw;have d2:=gQq ai;clear ai;go_wp2;refine yL rfl rfl rfl rfl (ie d2.out) rfl ⟨(Z.out.trans (HB1.out.mono Z.out.size)).trans ((dI w1 w.1.size _ _ _).below (by have:=Z.out.size;have:=HB1.out.size;omega) (fun i D K=>by omega)),?_⟩;rw[a5.out];rfl
end
end
end Go.Proofs.YtngmnfdaedlodaaGreatDoor
