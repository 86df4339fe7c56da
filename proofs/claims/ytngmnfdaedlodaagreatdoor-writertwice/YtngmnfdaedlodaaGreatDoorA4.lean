import Derived.Test.YtngmnfdaedlodaaGreatDoorA3
set_option maxRecDepth 100000
set_option maxHeartbeats 4000000
namespace Go.Proofs.YtngmnfdaedlodaaGreatDoor
open Go.Proofs.Tryz
open Option renaming some->I,none->U
open Go.Value renaming int->Y,slice->mA,pointer->mE
open Go.IntKind renaming i64->O
open Or renaming inl->qv,inr->sq
open Go.Obj renaming cells->qj
open Go renaming Value->AQ,World->wv
open Go.RowKit renaming Below->AX
open Go.Ending renaming returned->qz
open Go.Proofs.Tryz renaming prog->AW
variable{g p:Nat}{w:wv}{C:AV}{T:TypeId}
section
open Go.RowKit
namespace Wr
def starts(fs:List Fr):List Int:=(List.range fs.length).map fun i=>((bytes (fs.take i)).length:Int)
theorem bytes_snoc(fs:List Fr)(f:Fr):bytes (fs++[f])=bytes fs++Fr.out f:=by simp[bytes]
theorem starts_snoc(fs:List Fr)(f:Fr):starts (fs++[f])=starts fs++[((bytes fs).length:Int)]:=by
 unfold starts;rw[AU,AC,List.range_succ,List.map_append];congr 1
 ·apply List.map_congr_left;intro i o;rw[List.mem_range] at o;rw[List.take_append_of_le_length (by omega)]
 ·simp
theorem starts_len(fs:List Fr):(starts fs).length=fs.length:=by simp[starts]
theorem starts_get(fs:List Fr)(i:Nat)(h:i<(starts fs).length):(starts fs)[i]=((bytes (fs.take i)).length:Int):=by simp[starts]
theorem takes_snoc(f:Fr):∀(fs:List Fr) (k:Wk) (p:Int),takes k p (fs++[f])=Sc.next (takes k p fs) f (p+((bytes fs).length:Nat))
 | [],k,p=>by simp[takes,bytes]
 |g::fs,k,p=>by
  show takes (Sc.next k g p) (p+((Fr.out g).length:Nat)) (fs++[f])=_;rw[takes_snoc f fs];show Sc.next (takes (Sc.next k g p) (p+((Fr.out g).length:Nat)) fs) f _=Sc.next (takes (Sc.next k g p) (p+((Fr.out g).length:Nat)) fs) f _;congr 1;simp[bytes];omega
theorem out_most(f:Fr):(Fr.out f).length<=2202:=by
 unfold Fr.out;split
 ·next h=>
  have:=(Fr.err_open h).2;simp;omega
 ·simp
end Wr
section
variable {α:Type} {T S:TypeId} {k:Nat} {P:α->List AQ->wv->Prop} {w w':wv} {B:Nat} {v:AQ} {xs:List α}
theorem Lot.blk(h:Lot T k P w B v xs){i:Nat}(o:v.ownBlock=I i):∃C,w.1[i]?=I (qj C T (0,0)):=by
 obtain⟨us,_,_,A,_⟩:=h.out;rcases A.2 with ⟨rfl,_⟩ | ⟨g,cap,y,rfl,_,D,_⟩
 ·cases o
 ·injection o with o;rw[<-o];exact⟨y,D⟩
theorem mp{ad H b:Nat}{z:AQ}(bi:(Tryz.prog.info? T).map (fun i=>(i.zero,i.size,i.bytes))=I (I z,k,b))(a9:Tryz.prog.underlying S=I (.slice T))(b0:z.cells.size=k)(bl:0<k)(bq:Lot T k P w B v xs)(x:α)(C:AV)(Z:C.size=k)(a2:∀a∈C.toList,a.oneCell'=true)(a8:eI (fun i=>v.ownBlock=I i) w (P x C.toList))(bb:w.1[ad]?=I (qj C T (0,0)))(bn:(xs.length+1)*b<=140737488355328)(b2:xs.length<=1000000000)(a5:B<=w.1.size)(a6:w.1.size=H){b1:Array Oper}{A:Oper}{a:Act}{K:Act->wv->Prop}{Q:Exit->Act->wv->Prop}{E:Prop}{y q:Operand}(be:A.guard=U)(bp:A.op=Op.call { callee:=Callee.builtin Builtin.append,args:=#[y,q],argTypes:=#[S,S] })(bN:a.eval y=v)(bT:a.eval q=mA (I ⟨ad,0,U⟩) 1 1)(a7:∀g cap w',Lot T k P w' B (mA (I ⟨g,0,U⟩) (xs.length+1) cap) (xs++[x])->Aside (fun j=>v.ownBlock=I j) w w'->(v.ownBlock=I g∨g=H)->K (a.put A.dst (mA (I ⟨g,0,U⟩) (xs.length+1) cap)) w'):
  if Region.wanted A (yielded b1 a.tmps)=true then Oper.wp AW A a w K Q else E:=by
 obtain⟨i,D,bX,bO,bc⟩:=info_parts bi;obtain⟨us,X,ak,aw,a0⟩:=bq.out
 refine step_append_lies w be y q S bp B T i z k b a9 D bX bO bc b0 bl v xs.length us.flatten bN aw ⟨ad,0,U⟩ 1 1 _ bT (by simp[Z])
  (World.news_of_block bb) a2 (by decide) (by unfold maxLen;omega) bn a5 H a6 fun g cap w' a3 a4 h5 _=>?_
 have J:=ca a4;have ab:∀i,(mA (I ⟨g,0,U⟩) (xs.length+1) cap).ownBlock=I i->v.ownBlock=I i∨w.1.size<=i:=fun i D=>by
  simp only[Value.ownBlock,Option.some.injEq] at D;subst D;rcases h5 with h5 | h5
  ·exact qv h5
  ·exact sq (by omega)
 refine a7 g cap w' ⟨us++[C.toList],by simp[X],fun u o=>?_,?_,fun j bj=>?_⟩ J h5
 ·rcases List.mem_append.1 o with o | o
  ·exact ak u o
  ·simp at o;rw[o];simpa using Z
 ·rw[AU,AC,List.flatten_append];simpa using a3
 ·by_cases ah:j<xs.length
  ·obtain⟨u,f1,a1⟩:=a0 j ah;refine⟨u,by rw[List.getElem?_append_left (by omega)];exact f1,?_⟩;rw[List.getElem_append_left ah];exact a1.step J ab
  ·have bk:j=xs.length:=(by rw[AU,AC] at bj;omega);subst bk;refine⟨C.toList,by rw[List.getElem?_append_right (by omega),X];simp,?_⟩;simp only[List.getElem_append_right gQx,Nat.sub_self,List.getElem_cons_zero];exact a8.step J ab
end
def iO(G:Nat->Prop)(f:Fr)(u:List AQ)(w:wv):Prop:=∀w',Aside G w w'->cg w' u.toArray f
structure Pc(w0 w:wv)(pb:Nat)(fv sv bv:AQ)(G:Nat->Prop)(fs:List Fr)(ss:List Int)(bs:L8):Prop where
 lies:w.1[pb]?=I (qj #[fv,sv,bv] 90 (0,0))
 low:w0.1.size<=pb
 frames:Lot 52 11 (iO G) w w0.1.size fv fs
 starts:Lot 3 1 (fun(x:Int) u _=>u=[Y O x]) w w0.1.size sv ss
 bytes:Has w w0.1.size bv bs
 below:AX w0.1.size w0 w
 all:∀i,w0.1.size<=i->G i
section
variable {G:Nat->Prop} {w0 w w':wv} {pb:Nat} {fv sv bv fv' sv' bv':AQ} {fs fs':List Fr} {ss ss':List Int} {bs bs':L8}
theorem Pc.lt(h:Pc w0 w pb fv sv bv G fs ss bs):pb<w.1.size:=ao h.lies
theorem Pc.cell(h:Pc w0 w pb fv sv bv G fs ss bs)(i:Nat):w.cell? ⟨pb,i,U⟩=(#[fv,sv,bv]:AV)[i]?:=by
 unfold World.cell?;rw[h.lies];rfl
theorem Pc.thawed(h:Pc w0 w pb fv sv bv G fs ss bs)(i:Nat):w.frozen? ⟨pb,i,U⟩=false:=by simp[World.frozen?,h.lies]
theorem Pc.stay{F:Nat->Prop}{v:AQ}(h:Pc w0 w pb fv sv bv G fs ss bs)(J:Aside F w w')(D:∀i,F i->w0.1.size<=i)(Q:∀i,v.ownBlock=I i->w0.1.size<=i)(x:Fr)(u:List AQ)(K:eI (fun i=>v.ownBlock=I i) w (iO G x u)):eI (fun i=>v.ownBlock=I i) w' (iO G x u):=fun _ y X A=>
 K.here X (((J.mono (fun i _ o=>h.all i (D i o))).trans y (fun i _ o=>h.all i (Q i o))).trans A (fun _ _ o=>o))
theorem Pc.on(h:Pc w0 w pb fv sv bv G fs ss bs)(hb:AX w.1.size w w'):Pc w0 w' pb fv sv bv G fs ss bs :=
 ⟨(hb.block pb h.lt).trans h.lies,h.low,h.frames.on hb,h.starts.on hb,h.bytes.on hb,h.below.trans (hb.mono h.below.size),h.all⟩
theorem Pc.fl(h:Pc w0 w pb fv sv bv G fs ss bs):∀i,fv.ownBlock=I i->w0.1.size<=i:=fun i o=>(h.frames.lt i o).1
theorem br{i:Nat}{y:AV}{o:TypeId}(h:w.1[p]?=I (qj C T (0,0)))(k:w.1[i]?=I (qj y o (0,0)))(A:T≠o):i≠p:=fun e=>by
 subst e;rw[h] at k;injection k with k;injection k with _ k;exact A k
theorem bU(h:w.1[p]?=I (qj C T (0,0)))(m:Nat)(u:AQ):(w.setCell ⟨p,m,U⟩ u).1[p]?=I (qj (C.setIfInBounds m u) T (0,0)):=by
 simp[World.setCell,Array.getElem?_modify,h]
def pAs(pb:Nat)(v:AQ)(i:Nat):Prop:=i=pb∨v.ownBlock=I i
theorem Pc.f(h:Pc w0 w pb fv sv bv G fs ss bs)(ab:Aside (fun i=>fv.ownBlock=I i) w w')(K:Lot 52 11 (iO G) w' w0.1.size fv' fs'):w'.1[pb]?=I (qj #[fv,sv,bv] 90 (0,0))∧Pc w0 (w'.setCell ⟨pb,0,U⟩ fv') pb fv' sv bv G fs' ss bs∧Aside (pAs pb fv) w (w'.setCell ⟨pb,0,U⟩ fv'):=by
 have a0:∀i,fv.ownBlock=I i->i≠pb:=fun i o=>by
  obtain⟨C,A⟩:=h.frames.blk o;exact br h.lies A (by decide)
 have Q:w'.1[pb]?=I (qj #[fv,sv,bv] 90 (0,0)):=(ab.block pb h.lt (fun y=>a0 _ y rfl)).trans h.lies;have Z:Aside (fun i=>i=pb) w' (w'.setCell ⟨pb,0,U⟩ fv'):=(Aside.refl (fun i=>i=pb) w').setCell (p:=⟨pb,0,U⟩) (qv rfl) _;have hA:Aside (pAs pb fv) w (w'.setCell ⟨pb,0,U⟩ fv'):=(ab.mono (fun i _ o=>sq o)).trans Z (fun i _ o=>qv o);have aw:∀i,pAs pb fv i->w0.1.size<=i:=fun i o=>by
  rcases o with o | o
  ·rw[o];exact h.low
  ·exact h.fl i o
 refine⟨Q,⟨bU Q 0 fv',h.low,K.aside Z (fun i o y=>?_) (fun x u X=>?_),h.starts.aside hA (fun i o y=>?_) (fun _ _ X _ _=>X.here),h.bytes.aside hA (fun i o y=>?_),h.below.trans (hA.below h.below.size (fun k a2 y=>by have:=aw k y;omega)),h.all⟩,hA⟩
 ·obtain⟨C,A⟩:=K.blk o;exact br Q A (by decide) y
 ·exact fun a3 aj a1 ak=>X.here a1 (((Z.mono (fun i _ o=>h.all i (by rw[o];exact h.low))).trans aj (fun i _ o=>h.all i (K.lt i o).1)).trans ak (fun _ _ o=>o))
 ·obtain⟨C,A⟩:=h.starts.blk o;rcases y with y | y
  ·exact br h.lies A (by decide) y
  ·obtain⟨D,J⟩:=h.frames.blk y;exact br A J (by decide) rfl
 ·obtain⟨C,A⟩:=cZ h.bytes o;rcases y with y | y
  ·exact br h.lies A (by decide) y
  ·obtain⟨D,J⟩:=h.frames.blk y;exact br A J (by decide) rfl
theorem Pc.s(h:Pc w0 w pb fv sv bv G fs ss bs)(X:Aside (fun i=>sv.ownBlock=I i) w w')(Z:Lot 3 1 (fun(x:Int) u _=>u=[Y O x]) w' w0.1.size sv' ss'):w'.1[pb]?=I (qj #[fv,sv,bv] 90 (0,0))∧Pc w0 (w'.setCell ⟨pb,1,U⟩ sv') pb fv sv' bv G fs ss' bs∧Aside (pAs pb sv) w (w'.setCell ⟨pb,1,U⟩ sv'):=by
 have aj:∀i,sv.ownBlock=I i->i≠pb:=fun i y=>by
  obtain⟨C,A⟩:=h.starts.blk y;exact br h.lies A (by decide)
 have K:w'.1[pb]?=I (qj #[fv,sv,bv] 90 (0,0)):=(X.block pb h.lt (fun o=>aj _ o rfl)).trans h.lies;have ab:Aside (fun i=>i=pb) w' (w'.setCell ⟨pb,1,U⟩ sv'):=(Aside.refl (fun i=>i=pb) w').setCell (p:=⟨pb,1,U⟩) (qv rfl) _;have hA:Aside (pAs pb sv) w (w'.setCell ⟨pb,1,U⟩ sv'):=(X.mono (fun i _ y=>sq y)).trans ab (fun i _ y=>qv y);have Q:∀i,pAs pb sv i->w0.1.size<=i:=fun i y=>by
  rcases y with y | y
  ·rw[y];exact h.low
  ·exact(h.starts.lt i y).1
 refine⟨K,⟨bU K 1 sv',h.low,h.frames.aside hA (fun i y o=>?_) (h.stay hA Q h.fl),Z.aside ab (fun i y o=>?_) (fun _ _ ak _ _=>ak.here),h.bytes.aside hA (fun i y o=>?_),h.below.trans (hA.below h.below.size (fun k aw o=>by have:=Q k o;omega)),h.all⟩,hA⟩
 ·obtain⟨C,A⟩:=h.frames.blk y;rcases o with o | o
  ·exact br h.lies A (by decide) o
  ·obtain⟨D,J⟩:=h.starts.blk o;exact br A J (by decide) rfl
 ·obtain⟨C,A⟩:=Z.blk y;exact br K A (by decide) o
 ·obtain⟨C,A⟩:=cZ h.bytes y;rcases o with o | o
  ·exact br h.lies A (by decide) o
  ·obtain⟨D,J⟩:=h.starts.blk o;exact br A J (by decide) rfl
theorem Pc.b(h:Pc w0 w pb fv sv bv G fs ss bs)(X:Aside (fun i=>bv.ownBlock=I i) w w')(Z:Has w' w0.1.size bv' bs'):w'.1[pb]?=I (qj #[fv,sv,bv] 90 (0,0))∧Pc w0 (w'.setCell ⟨pb,2,U⟩ bv') pb fv sv bv' G fs ss bs'∧Aside (pAs pb bv) w (w'.setCell ⟨pb,2,U⟩ bv'):=by
 have aj:∀i,bv.ownBlock=I i->i≠pb:=fun i y=>by
  obtain⟨C,A⟩:=cZ h.bytes y;exact br h.lies A (by decide)
 have K:w'.1[pb]?=I (qj #[fv,sv,bv] 90 (0,0)):=(X.block pb h.lt (fun o=>aj _ o rfl)).trans h.lies;have ab:Aside (fun i=>i=pb) w' (w'.setCell ⟨pb,2,U⟩ bv'):=(Aside.refl (fun i=>i=pb) w').setCell (p:=⟨pb,2,U⟩) (qv rfl) _;have hA:Aside (pAs pb bv) w (w'.setCell ⟨pb,2,U⟩ bv'):=(X.mono (fun i _ y=>sq y)).trans ab (fun i _ y=>qv y);have Q:∀i,pAs pb bv i->w0.1.size<=i:=fun i y=>by
  rcases y with y | y
  ·rw[y];exact h.low
  ·exact(h.bytes.lt i y).1
 refine⟨K,⟨bU K 2 bv',h.low,h.frames.aside hA (fun i y o=>?_) (h.stay hA Q h.fl),h.starts.aside hA (fun i y o=>?_) (fun _ _ ak _ _=>ak.here),Z.aside ab (fun i y o=>?_),h.below.trans (hA.below h.below.size (fun k aw o=>by have:=Q k o;omega)),h.all⟩,hA⟩
 ·obtain⟨C,A⟩:=h.frames.blk y;rcases o with o | o
  ·exact br h.lies A (by decide) o
  ·obtain⟨D,J⟩:=cZ h.bytes o;exact br A J (by decide) rfl
 ·obtain⟨C,A⟩:=h.starts.blk y;rcases o with o | o
  ·exact br h.lies A (by decide) o
  ·obtain⟨D,J⟩:=cZ h.bytes o;exact br A J (by decide) rfl
 ·obtain⟨C,A⟩:=cZ Z y;exact br K A (by decide) o
theorem wl:(Tryz.prog.info? 52).map (fun i=>(i.zero,i.size,i.bytes))=I (I (.agg #[Y O 0,Y O 0,mA U 0 0,Y O 0,Y O 0,Y O 0,mA U 0 0,Y O 0,Y O 0,Y O 0,mA U 0 0]),11,136):=by kernel_rfl
theorem wh:(Tryz.prog.info? 3).map (fun i=>(i.zero,i.size,i.bytes))=I (I (Y O 0),1,8):=by kernel_rfl
def yH(w0 w:wv)(pb:Nat)(fv sv bv:AQ)(G:Nat->Prop)(fs:List Fr)(w':wv):Prop:=∃fv' sv' bv',Pc w0 w' pb fv' sv' bv' G fs (Wr.starts fs) (Wr.bytes fs)∧Aside (fun i=>i=pb∨fv.ownBlock=I i∨sv.ownBlock=I i∨bv.ownBlock=I i) w w'
theorem wB{w':wv}{f:Fr}{e:Ending}(h:ko w (Fr.err f) (0::(Fr.run f++[0])) e w'):∃(q:OA) (cap:Nat) (y:Int),e=qz (.tuple #[mA q (Fr.out f).length cap,Y O y])∧Has w' w.1.size (mA q (Fr.out f).length cap) (Fr.out f)∧AX w.1.size w w':=by
 rcases h with ⟨o,q,cap,rfl,A,hb⟩ | ⟨o,rfl,hb⟩
 ·have e:Fr.out f=0::(Fr.run f++[0]):=AK o;rw[e];exact⟨q,cap,0,rfl,A,hb⟩
 ·have e:Fr.out f=[]:=AJ o;rw[e];exact⟨U,0,_,rfl,bF _ _,hb⟩
theorem qA(h:Pc w0 w pb fv sv bv G fs (Wr.starts fs) (Wr.bytes fs))(f:Fr)(c6:f.wf)(u:AV)(bc:iO G f u.toList w)(c5:Hv w)(ez:fs.length<=10)(ew:(Wr.bytes fs).length<=100000):
    Calls AW 57 #[mE (I ⟨pb,0,U⟩),.agg u] w fun e' w'=>e'=qz (.tuple #[])∧yH w0 w pb fv sv bv G (fs++[f]) w':=by
  have b7:cg w u f:=by simpa using bc w (Aside.refl _ _)
  have b8:=b7;obtain⟨sp,bi,a6,a5,a8,a7,rfl,-⟩:=b7.out;unfold aG at b8 bc ⊢;obtain⟨Q,a3⟩:∃Q,Q=w.alloc (qj #[Y O f.kind,Y O f.number,mA sp f.cols.length bi,Y O f.seq,Y O f.first,Y O f.rows,mA a6 f.block.length a5,Y O f.index.at_,Y O f.index.frames,Y O f.index.rows,mA a8 f.index.entries.length a7] 52):=⟨_,rfl⟩;have bb:AX w.1.size w Q:=by rw[a3];exact gQy
  have bN:Hid (Calls AW 45 #[.agg #[Y O f.kind,Y O f.number,mA sp f.cols.length bi,Y O f.seq,Y O f.first,Y O f.rows,mA a6 f.block.length a5,Y O f.index.at_,Y O f.index.frames,Y O f.index.rows,mA a8 f.index.entries.length a7]] Q fun e w'=>∃(q:OA) (cap:Nat) (cn:Int),e=qz (.tuple #[mA q (Fr.out f).length cap,Y O cn])∧Has w' Q.1.size (mA q (Fr.out f).length cap) (Fr.out f)∧AX Q.1.size Q w'):=(qp f c6 _ Q (c5.next bb) (b8.on bb)).mono fun _ _ h=>wB h;have A:=gQq h;have d6:=gQq bc;have cc:=gQq bb;have ea:=gQq a3.symm;have b5:=am w (qj #[Y O f.kind,Y O f.number,mA sp f.cols.length bi,Y O f.seq,Y O f.first,Y O f.rows,mA a6 f.block.length a5,Y O f.index.at_,Y O f.index.frames,Y O f.index.rows,mA a8 f.index.entries.length a7] 52);rw[<-a3] at b5;have d5:=gQq b5;have fq:Q.1.size=w.1.size+1:=by rw[a3];simp
  have e0:=Wr.out_most f;obtain⟨be,b9⟩:∃be,be=Fr.out f:=⟨_,rfl⟩;have cd:Hid (Wr.bytes (fs++[f])=Wr.bytes fs++be):=by rw[b9];exact Wr.bytes_snoc fs f
  have bO:=gQq (Wr.starts_snoc fs f);rw[<-b9] at bN e0;obtain⟨K,cu⟩:∃K,K=Wr.bytes fs:=⟨_,rfl⟩;obtain⟨aj,cb⟩:∃aj,aj=Wr.starts fs:=⟨_,rfl⟩;have fc:aj.length<=10:=by rw[cb,Wr.starts_len];exact ez
  rw[<-cu] at A cd bO ew;rw[<-cb] at A bO;clear h bc b7 b8 c5 bb a3 b5 c6 b9 cu cb;go_enter func57,ntmps57;go_wp2_with fail;rw[ea.out];refine bN.out.mono ?_;rintro e w1 ⟨q,cap,cn,rfl,Z,b4⟩;have bk:=gQq Z;obtain⟨ah,ab,ev,-,-⟩:=A.out.bytes.at;subst ev;have a2:=cc.out.trans (b4.mono cc.out.size);have a9:=A.out.on a2;have c0:w1.cell? ⟨pb,0,U⟩=I fv:=a9.cell 0;have b6:=(b4.block w.1.size (by omega)).trans d5.out;obtain⟨c7,c8,df,dj,dr,ds,du,dv,d0,d1,c9⟩:=cf b6;have el:∀o,(w1.alloc o).cell? ⟨pb,0,U⟩=I fv:=fun o=>ae (gQz.alloc gQx o) c0;have e1:pb≠w.1.size:=Nat.ne_of_lt A.out.lt;have e9:w.1.size≠pb:=fun e=>e1 e.symm;have d2:=gQq a9;have bp:=gQq a2;have bq:=gQq b6;have d7:Hid (∀o,Lot 52 11 (iO G) (w1.alloc o).drew w0.1.size fv fs):=fun o=>a9.frames.on gQy.drew;have d8:Hid (∀o,eI (fun i=>fv.ownBlock=I i) (w1.alloc o).drew (iO G f [Y O f.kind,Y O f.number,mA sp f.cols.length bi,Y O f.seq,Y O f.first,Y O f.rows,mA a6 f.block.length a5,Y O f.index.at_,Y O f.index.frames,Y O f.index.rows,mA a8 f.index.entries.length a7])):=fun o bj a0 ak a1=>
    d6.out ak (((af (a2.alloc a2.size o).drew G).trans a0 (fun i _ y=>A.out.all i (A.out.fl i y))).trans a1 (fun _ _ y=>y))
  clear b4 Z a2 a9 b6 bN;go_wp2_with fail
  go_region_law (first|(refine mp (P:=iO G) wl underlying87 rfl (by decide) (d7.out _) f _ (by rfl) (by intro a Z;simp at Z;rcases Z with rfl | rfl | rfl | rfl | rfl | rfl | rfl | rfl | rfl | rfl | rfl <;> rfl) (d8.out _) (am _ _) (by omega) (by omega) (by have:=A.out.below.size;have:=bp.out.size;simp;omega) rfl (by rfl) (by rfl) (by rfl) (by rfl) ?_;intro co cj bj cx b3 eC;obtain⟨D,a0,bX⟩:=(d2.out.on gQy.drew).f b3 cx;have c0:bj.cell? ⟨pb,0,U⟩=I fv:=aa D 0;have e6:bj.frozen? ⟨pb,0,U⟩=false:=ac D 0;have cv:=(b3.block w.1.size (by have:=ao bq.out;simp;omega) (fun J=>by have:=(A.out.frames.lt _ J).2;omega)).trans (((gQy.drew).block _ (ao bq.out)).trans bq.out);obtain⟨c7,c8,df,dj,dr,ds,du,dv,d0,d1,c9⟩:=cf cv;obtain⟨X,b1⟩:∃W,W=bj.setCell ⟨pb,0,U⟩ (mA (I ⟨co,0,U⟩) (fs.length+1) cj):=⟨_,rfl⟩;rw[<-b1] at a0 bX;have aw:=gQq a0;have eb:=gQq b1.symm;have bl:Hid (Aside (pAs pb fv) w1 X):=(af (gQy.drew) _).trans bX (fun _ _ h=>h);clear cx b3 eC D a0 bX cv b1)|fail)
  all_goals
    clear c7 c8 df dj dr ds du dv d0 d1 c9 c0 el;rw[eb.out];have c1:X.cell? ⟨pb,1,U⟩=I sv:=aw.out.cell 1;have c2:X.cell? ⟨pb,2,U⟩=I (mA ah K.length ab):=aw.out.cell 2;have en:∀o,(X.alloc o).cell? ⟨pb,2,U⟩=I (mA ah K.length ab):=fun o=>ae (gQz.alloc gQx o) c2;have em:∀o,(X.alloc o).cell? ⟨pb,1,U⟩=I sv:=fun o=>ae (gQz.alloc gQx o) c1;have ci:Hid (∀o,Lot 3 1 (fun(x:Int) u _=>u=[Y O x]) (X.alloc o).drew w0.1.size sv aj):=fun o=>aw.out.starts.on gQy.drew;go_wp2_with fail
    go_region_law (first|(refine mp wh underlying88 rfl (by decide) (ci.out _) (K.length:Int) #[Y O (K.length:Int)] (by rfl) (by intro a Z;simp at Z;subst Z;rfl) (fun _ _=>rfl) (am _ _) (by omega) (by omega) (by have:=aw.out.below.size;simp;omega) rfl (by rfl) (by rfl) (by rfl) (by rfl) ?_;intro cp ck ak cy cs eL;obtain⟨D,a1,b0⟩:=(aw.out.on gQy.drew).s cs cy;have c1:ak.cell? ⟨pb,1,U⟩=I sv:=aa D 1;have c2:ak.cell? ⟨pb,2,U⟩=I (mA ah K.length ab):=aa D 2;have f1:ak.frozen? ⟨pb,1,U⟩=false:=ac D 1;obtain⟨bT,b2⟩:∃W,W=ak.setCell ⟨pb,1,U⟩ (mA (I ⟨cp,0,U⟩) (aj.length+1) ck):=⟨_,rfl⟩;rw[<-b2] at a1 b0;have a4:=gQq a1;have ec:=gQq b2.symm;have bn:Hid (Aside (pAs pb sv) X bT):=(af (gQy.drew) _).trans b0 (fun _ _ h=>h);clear cy cs eL D a1 b0 b2)|fail)
    all_goals
      clear c1 c2 em en f1 ci;rw[ec.out];have e4:bT.cell? ⟨pb,2,U⟩=I (mA ah K.length ab):=a4.out.cell 2;have fx:=bp.out.size;have fi:=bl.out.size;have fo:=bn.out.size;have e8:=A.out.lt;have d9:Hid (At bT q be):=by
        refine Has.here (((bk.out.aside bl.out (fun i y J=>?_)).aside bn.out (fun i y J=>?_)))
        · have:=(bk.out.lt i y).1;rcases J with J | J
          · omega
          · have:=(A.out.frames.lt i J).2;omega
        · have:=(bk.out.lt i y).1;rcases J with J | J
          · omega
          · have:=(A.out.starts.lt i J).2;omega
      go_wp2_with (first|(at_builtin;refine aC a4.out.bytes d9.out (by omega) a4.out.below.size rfl rfl rfl rfl rfl ?_;intro e3 e2 ep w4 eg cw ct _;obtain⟨D,cq,cr⟩:=a4.out.b ct cw;have e5:w4.cell? ⟨pb,2,U⟩=I (mA ah K.length ab):=aa D 2;have e7:w4.frozen? ⟨pb,2,U⟩=false:=ac D 2;have d4:=gQq cr;have d3:=gQq cq;clear cw ct D cq cr)|fail)
      go_end0;have eq:Aside (fun i=>i=pb∨fv.ownBlock=I i∨sv.ownBlock=I i∨(mA ah K.length ab).ownBlock=I i) w X:=((af bp.out _).trans bl.out (fun i _ y=>y.elim qv (fun h=>sq (qv h))));have er:=eq.trans bn.out (fun i _ y=>y.elim qv (fun h=>sq (sq (qv h))));exact⟨rfl,mA (I ⟨co,0,U⟩) (fs.length+1) cj,mA (I ⟨cp,0,U⟩) (aj.length+1) ck,mA e2 e3.length ep,by rw[cd.out,bO.out,<-eg.out];exact d3.out,er.trans d4.out (fun i _ y=>y.elim qv (fun h=>sq (sq (sq h))))⟩
end
end
section
open Go.RowKit Go.Maps
theorem Wr.bytes_most(l:List Fr):(Wr.bytes l).length<=2202*l.length:=by
 induction l with
 |nil=>simp[Wr.bytes]
 |cons f l ih=>
  have y:=Wr.out_most f;have o:Wr.bytes (f::l)=Fr.out f++Wr.bytes l:=by simp[Wr.bytes]
  rw[o,AU,Aq];omega
theorem xz{q:Nat}(o:p<=2097152)(y:q<=100000):IntKind.i64.wrap ((p:Int)+(q:Int))=(p:Int)+(q:Int):=by
 rw[IntKind.wrap_i64];omega
section
variable {w w':wv} {B a g m M n n' N:Nat} {v e e':AQ} {x k:Nat} {gm gm':Int->Option AQ} {q:OA} {cap:Nat} {z:Wr} {k':Wk} {E G:Nat->Prop} {fv sv bv:AQ} {fs:List Fr}
theorem KWr.walked(h:KWr w B a g m M n v e x k gm q cap z E)(Z:au w' B m M n' e' gm' k' (fun i=>(i=a∨i=g∨v.ownBlock=I i)∨E i))(D:Aside (bz m M e) w w')(X:∀i,e'.ownBlock=I i->e.ownBlock=I i∨w.1.size<=i):KWr w' B a g m M n' v e' x k gm' q cap ⟨z.s,k',z.c,z.up⟩ E:=by
 have J:∀i,((i=a∨i=g∨v.ownBlock=I i)∨E i)->¬bz m M e i:=fun i o y=>by
  obtain⟨A,K,Q⟩:=h.walk.off i o;rcases y with y | y | y
  ·exact A y
  ·exact K y
  ·exact Q y
 refine⟨(D.block a h.lt (J a (qv (qv rfl)))).trans h.lies,h.dev.aside D (J g (qv (sq (qv rfl)))) (fun i o=>J i (qv (sq (sq o)))),Z,h.base,h.room,h.good,h.calm.step (D.mono fun i _ o=>sq o) (fun i o=>?_)⟩;rcases o with o | o | o | o
 ·exact qv (qv o)
 ·exact qv (sq (qv o))
 ·exact qv (sq (sq (qv o)))
 ·rcases X i o with A | A
  ·exact qv (sq (sq (sq A)))
  ·exact sq A
theorem KWr.ge(h:KWr w B a g m M n v e x k gm q cap z E):∀i,((i=g∨v.ownBlock=I i)∨bz m M e i)->B<=i:=fun i o=>by
 rcases o with (o | o) | o | o | o
 ·rw[o];exact h.dev.base
 ·exact(h.dev.has.lt i o).1
 ·rw[o];exact h.walk.base.1
 ·rw[o];exact h.walk.base.2
 ·exact(h.walk.ents.lt i o).1
structure Pw(w:wv)(N:Nat)(fv sv bv:AQ)(G:Nat->Prop)(fs:List Fr):Prop where
 frames:Lot 52 11 (iO G) w N fv fs
 starts:Lot 3 1 (fun(x:Int) u _=>u=[Y O x]) w N sv (Wr.starts fs)
 bytes:Has w N bv (Wr.bytes fs)
 all:∀i,N<=i->G i
theorem Pw.aside{F:Nat->Prop}(h:Pw w N fv sv bv G fs)(D:Aside F w w')(Z:∀i,F i->G i)(J:∀i,F i->i<N∨(fv.ownBlock≠I i∧sv.ownBlock≠I i∧bv.ownBlock≠I i)):Pw w' N fv sv bv G fs:=by
 refine⟨h.frames.aside D (fun i o A=>?_) (fun x u K ah Q ab X=>?_),h.starts.aside D (fun i o A=>?_) (fun _ _ K _ _=>K.here),h.bytes.aside D (fun i o A=>?_),h.all⟩
 ·have:=h.frames.lt i o;rcases J i A with y | y
  ·omega
  ·exact y.1 o
 ·exact K.here ab (((D.mono (fun i _ o=>Z i o)).trans Q (fun i _ o=>h.all i (h.frames.lt i o).1)).trans X (fun _ _ o=>o))
 ·have:=h.starts.lt i o;rcases J i A with y | y
  ·omega
  ·exact y.2.1 o
 ·have:=h.bytes.lt i o;rcases J i A with y | y
  ·omega
  ·exact y.2.2 o
theorem Pc.pw{w0:wv}{pb:Nat}(h:Pc w0 w pb fv sv bv G fs (Wr.starts fs) (Wr.bytes fs)):Pw w w0.1.size fv sv bv G fs:=⟨h.frames,h.starts,h.bytes,h.all⟩
structure Wrote(w:wv)(B a g m M n d:Nat)(v e:AQ)(q:OA)(cap:Nat)(z':Wr)(E:Nat->Prop)(w':wv):Prop where
 out:∃v' e' x' k' gm',KWr w' B a g m M (n+d) v' e' x' k' gm' q cap z' E∧(∀i,v'.ownBlock=I i->v.ownBlock=I i∨w.1.size<=i)∧∀i,e'.ownBlock=I i->e.ownBlock=I i∨w.1.size<=i
 aside:Aside (fun i=>(i=g∨v.ownBlock=I i)∨bz m M e i) w w'
structure L19(w1:wv)(B a g m M n:Nat)(v e:AQ)(x k:Nat)(q:OA)(cap:Nat)(s:Dv.St)(k0:Wk)(c:List Col)(up:Bool)(E:Nat->Prop)(ln N:Nat)(fv sv bv:AQ)(G:Nat->Prop)(fs:List Fr)(pb i:Nat)(wr:wv):Prop where
 out:∃e' gm',KWr wr B a g m M (n+i) v e' x k gm' q cap ⟨s,Wr.takes k0 (ln:Nat) (fs.take i),c,up⟩ E∧∀j,e'.ownBlock=I j->e.ownBlock=I j∨w1.1.size<=j
 pw:Pw wr N fv sv bv G fs
 lies:wr.1[pb]?=I (qj #[fv,sv,bv] 90 (0,0))
 aside:Aside (bz m M e) w1 wr
theorem pN(h:KWr w B a g m M n v e x k gm q cap z E)(d0:Pw w N fv sv bv G fs)(ev:∀i,((i=g∨v.ownBlock=I i)∨bz m M e i)->G i)(cj:∀i,((i=g∨v.ownBlock=I i)∨bz m M e i)->i<N)(f2:Hv w)(hp:2<B)(bT:∀f∈fs,f.wf)(hN:fs.length<=10)(hP:n<900000000)(fq:z.s.safe<=z.s.b.length)(dv:z.s.b.length<=2097152)(fi:z.s.most<=1048576)(e1:z.s.done<4611686018425290752):
  Calls AW 37 #[mE (I ⟨a,0,U⟩),.agg #[fv,sv,bv]] w fun c6 w1=>c6=qz (Y O ((z.write fs).1:Nat))∧Wrote w B a g m M n fs.length v e q cap (z.write fs).2 E w1:=by
 obtain⟨Q,bp⟩:∃Q,Q=w.alloc (qj #[fv,sv,bv] 90):=⟨_,rfl⟩;have cp:AX w.1.size w Q:=by rw[bp];exact gQy
 have bX:=h.on cp;have g8:N<=w.1.size∨fs=[]:=by
  cases hfs:fs with
  |nil=>exact sq rfl
  |cons f r=>
   left;have hk:0<fs.length:=(by rw[hfs];simp);obtain⟨ep,hJ,u1,D,_,b0,er,_⟩:=d0.frames.cell 0 hk;omega
 have b4:Pw Q N fv sv bv G fs:=d0.aside (F:=fun _=>False) (af cp _) (fun _ hc=>hc.elim) (fun _ hc=>hc.elim);obtain⟨ab,Z,rfl,dr,-⟩:=b4.bytes.at;have hS:Q.1.size=w.1.size+1:=by rw[bp];simp
 have ew:B<=Q.1.size:=by have:=h.lt;have:=h.base;omega
 obtain⟨K,bc⟩:∃K,K=Wr.bytes fs:=⟨_,rfl⟩;have f7:=gQq Wr.bytes_most;have hM:K.length<=100000:=by
  have:=Wr.bytes_most fs;rw[bc];omega
 have c5:Hid (Calls AW 59 #[mE (I ⟨g,0,U⟩),mA ab K.length Z] Q.drew (cU Q B g v (Dv.write z.s K))):=by
  rw[<-bc] at dr;have hd:AX Q.1.size Q Q.drew:=gQz.drew;refine(xT (bX.dev.below hd) ab Z K (by omega) (dr.on hd) (fun hQ b o hm hc=>?_) fq dv fi e1 ew).mono fun _ w' ⟨D,v',hs,k',b0,er,g5⟩=>⟨D,v',hs,k',b0,(af hd _).trans er (fun _ _ h=>h),g5⟩;have e6:=b4.bytes;rw[<-bc] at e6;have:=e6.place b o hm;rcases hc with hc | hc
  ·have:=cj g (qv (qv rfl));omega
  ·have:=cj b (qv (sq hc));omega
 have cw:=gQq (m9 bX.dev);obtain⟨r,d1⟩:∃r,r=Dv.write z.s K:=⟨_,rfl⟩;have cd:Hid (z.write fs=if r.1≠0 then (r.1,⟨r.2,z.k,z.c,z.up⟩) else (0,⟨r.2,Wr.takes z.k (z.s.b.length:Nat) fs,z.c,z.up⟩)):=by rw[d1,bc];rfl
 rw[<-d1] at c5;have d3:(Wr.starts fs).length=fs.length:=Wr.starts_len fs;have aw:Q.1[w.1.size]?=I (qj #[fv,sv,mA ab K.length Z] 90 (0,0)):=by rw[bp,bc];exact am w _
 rw[<-bc] at bp b4 ⊢;have eg:=gQq aw;have gt:=gQq bp.symm;have ea:=gQq bX;have cy:=gQq b4;have cc:=gQq cp;have gh:=gQq f2;have gL:=gQq bT;have d9:=gQq ev;have el:=gQq cj;have ah:=gQq h;obtain⟨a3,fc⟩:∃a3,a3=z.s.b.length:=⟨_,rfl⟩;rw[<-fc] at cw cd dv;have c0:Q.cell? ⟨a,0,U⟩=I (mE (I ⟨g,0,U⟩)):=bX.cell 0;have p2:Q.cell? ⟨w.1.size,2,U⟩=I (mA ab K.length Z):=aa aw 2;have g0:∀o,(w.alloc o).cell? ⟨a,0,U⟩=I (mE (I ⟨g,0,U⟩)):=fun o=>ae (gQz.alloc gQx o) (h.cell 0);have hL:=h.lt;clear h d0 bX b4 cp bp d1 bc dr f2 bT ev cj aw fq e1 fi fc ew;go_enter func37,ntmps37;go_wp2_with fail;rw[gt.out];refine cw.out.mono ?_;rintro c6 w1 ⟨rfl,ct⟩;rw[ct];clear ct w1 cw g0;go_wp2_with fail;have e5:g<w.1.size:=ah.out.dev.lt;have f3:∀i,v.ownBlock=I i->i<w.1.size:=fun i hi=>(ah.out.dev.has.lt i hi).2;have gd:=gQq e5;have gs:=gQq f3;clear e5 f3
 go_region_held3 (fun w'=>w'.cell? ⟨a,0,U⟩=I (mE (I ⟨g,0,U⟩))∧w'.cell? ⟨w.1.size,2,U⟩=I (mA ab K.length Z)) (go_keep) (first|(go_at_call 59;refine c5.out.mono ?_;rintro c6 w1 ⟨rfl,b9,cb,b6,e0,cn,d5⟩;have D:=ea.out.filed e0 cn d5;have c0:w1.cell? ⟨a,0,U⟩=I (mE (I ⟨g,0,U⟩)):=D.cell 0;have bq:=(cn.block w.1.size (by omega) (fun hc=>hc.elim (fun hc=>by have:=gd.out;omega) (fun hc=>by have:=gs.out _ hc;omega))).trans eg.out;have p2:w1.cell? ⟨w.1.size,2,U⟩=I (mA ab K.length Z):=aa bq 2;have aj:=gQq D;have a4:=gQq cn;have em:=gQq d5;have cv:=gQq bq;clear e0 cn d5 D bq)|fail)
 clear c5;by_cases cs:r.1=0
 ·have cu:=gQq (cd.out.trans (AJ (fun hc=>hc cs)));rw[cs,show((0:Nat):Int)=0 from rfl];have hV:w1.cell? ⟨w.1.size,0,U⟩=I fv:=aa cv.out 0;obtain⟨c9,c8,rfl,-⟩:=cy.out.frames.form;obtain⟨d6,b8,rfl,-⟩:=cy.out.starts.form;have a5:Hid (Pw w1 N (mA c9 fs.length c8) (mA d6 (Wr.starts fs).length b8) (mA ab K.length Z) G fs):=cy.out.aside a4.out (fun i hi=>d9.out i (qv hi)) (fun i hi=>qv (el.out i (qv hi)));rw[d3] at a5 cv eg ⊢;obtain⟨fv,b3⟩:∃fv,fv=mA c9 fs.length c8:=⟨_,rfl⟩;obtain⟨sv,a2⟩:∃sv,sv=mA d6 fs.length b8:=⟨_,rfl⟩;have ec:Hid (L19 w1 B a g m M n b9 e cb b6 q cap r.2 z.k z.c z.up E a3 N fv sv (mA ab K.length Z) G fs w.1.size 0 w1):=⟨⟨e,gm,aj.out,fun i hi=>qv hi⟩,by rw[b3,a2];exact a5.out,by rw[b3,a2];exact cv.out,Aside.refl _ _⟩;have f9:Hid (AX B w w1):=((cc.out.mono (by have:=ah.out.lt;have:=ah.out.base;omega)).trans (a4.out.below (by have:=ah.out.lt;have:=ah.out.base;omega) (fun i hi hc=>by have:=ah.out.ge i (qv hc);omega)));have gq:Hid (∀i,sv.ownBlock=I i->N<=i∧i<w1.1.size):=fun i hi=>a5.out.starts.lt i (by rw[<-a2];exact hi);have cx:Hid ((∀i,fv.ownBlock=I i->i<w1.1.size)∧(∀i,sv.ownBlock=I i->i<w1.1.size)∧∀i,(mA ab K.length Z).ownBlock=I i->i<w1.1.size):=⟨fun i hi=>(a5.out.frames.lt i (by rw[<-b3];exact hi)).2,fun i hi=>(a5.out.starts.lt i (by rw[<-a2];exact hi)).2,fun i hi=>(a5.out.bytes.lt i hi).2⟩;have bl:Hid (∀i,bz m M e i->i<N∧G i):=fun i hi=>⟨el.out i (sq hi),d9.out i (sq hi)⟩
  have gb:Hid (∀i,bz m M e i->B<=i):=fun i hi=>ah.out.ge i (sq hi);have g7:B<=w1.1.size:=by have:=ah.out.lt;have:=ah.out.base;have:=cc.out.size;have:=a4.out.size;omega
  have f8:Hid (∀i,(Wr.bytes (fs.take i)).length<=100000):=fun i=>by
   have:=f7.out (fs.take i);rw[AA] at this;omega
  clear c0 p2 cs cd ea a5 aj;go_wp2_with fail;go_loopw [27] (fun d7 wr=>∃i:Nat,i<=fs.length∧d7=Y O i∧Hid (L19 w1 B a g m M n b9 e cb b6 q cap r.2 z.k z.c z.up E a3 N fv sv (mA ab K.length Z) G fs w.1.size i wr)) (fun d7 _=>fs.length-(intOf d7).toNat);case atStart=>exact⟨0,by omega,rfl,ec⟩
  case round=>
   obtain⟨i,hi,rfl,eb⟩:=hrel;clear ec;by_cases bi:i<fs.length
   ·have ep:(i:Int)<(fs.length:Int):=(by omega);obtain⟨⟨ci,eq,a1,be⟩,bO,aw,bb⟩:=eb.out;obtain⟨df,g1,us,e3,-,hf,hg,ho,eC,du⟩:=bO.frames.cell i bi;obtain⟨f,ds⟩:∃f,f=fs[i]:=⟨_,rfl⟩;have b5:=Wr.takes_snoc f (fs.take i) z.k (a3:Nat);rw[ds,<-List.take_succ_eq_append_getElem bi] at b5;have bT:=gL.out _ (AL bi);rw[<-ds] at b5 du bT;have b2:cg wr us.toArray f:=du wr (Aside.refl _ _);obtain⟨sp,bj,a7,a6,a9,a8,d4,-⟩:=b2.out;rw[d4] at b2;have f0:us=(aG f.kind f.number sp f.cols.length bj f.seq f.first f.rows a7 f.block.length a6 f.index.at_ f.index.frames f.index.rows a9 f.index.entries.length a8).toList:=(by rw[<-d4]);have X:∀m,m<11->wr.cell? ⟨df,i*11+m,U⟩=(aG f.kind f.number sp f.cols.length bj f.seq f.first f.rows a7 f.block.length a6 f.index.at_ f.index.frames f.index.rows a9 f.index.entries.length a8).toList[m]?:=fun m hl=>by rw[<-f0];exact eC m hl
    unfold aG at b2 X;obtain⟨ak,g2,hr,d2,-,hh,e4,-,eL,fx⟩:=bO.starts.cell i (by rw[d3];exact bi);have cq:=eL 0 (by omega);rw[fx,Wr.starts_get] at cq;have ez:(Wr.bytes (fs.take i)).length<=100000:=f8.out i;obtain⟨bk,fy⟩:∃bk:Nat,bk=(Wr.bytes (fs.take i)).length:=⟨_,rfl⟩;rw[<-fy] at cq ez b5;obtain⟨bn,ck⟩:∃W,W=wr.alloc (qj #[Y O f.kind,Y O f.number,mA sp f.cols.length bj,Y O f.seq,Y O f.first,Y O f.rows,mA a7 f.block.length a6,Y O f.index.at_,Y O f.index.frames,Y O f.index.rows,mA a9 f.index.entries.length a8] 52):=⟨_,rfl⟩;have b1:AX wr.1.size wr bn:=(by rw[ck];exact gQy);have a0:AX wr.1.size wr bn.drew:=b1.drew;have cr:bn.1[wr.1.size]?=I (qj #[Y O f.kind,Y O f.number,mA sp f.cols.length bj,Y O f.seq,Y O f.first,Y O f.rows,mA a7 f.block.length a6,Y O f.index.at_,Y O f.index.frames,Y O f.index.rows,mA a9 f.index.entries.length a8] 52):=(by rw[ck];exact am wr _);have g6:B<=wr.1.size:=(by have:=bb.size;omega);have f4:Hv wr:=gh.out.on (f9.out.trans (bb.below g7 (fun i hi hc=>by have:=gb.out i hc;omega))) hp;have fo:=tT (a1.walk.on a0) f bT _ (b2.on a0) ((a3:Int)+(bk:Int)) (f4.next a0) (by omega) (AG g6 a0.size);obtain⟨z0,z1,z2,z3,z4,hE,hF,hG,hH,hI,hD⟩:=cf cr;have hW:wr.cell? ⟨df,i*11,U⟩=I (Y O f.kind):=X 0 (by omega);have ht:=X 1 (by omega);have hv:=X 2 (by omega);have hw:=X 3 (by omega);have hx:=X 4 (by omega);have hy:=X 5 (by omega);have hz:=X 6 (by omega)
    have hA:=X 7 (by omega);have hB:=X 8 (by omega);have hC:=X 9 (by omega);have hu:=X 10 (by omega);simp only[List.getElem?_cons_succ,List.getElem?_cons_zero] at ht hv hw hx hy hz hA hB hC hu;have f6:wr.cell? ⟨ak,i,U⟩=I (Y O (bk:Int)):=(by simpa using cq);have hq:=ae b1 f6;have gN:bn.cell? ⟨a,1,U⟩=I (mE (I ⟨m,0,U⟩)):=(a1.on b1).cell 1;have bq:=(b1.block _ (ao aw)).trans aw;have f5:bn.cell? ⟨w.1.size,1,U⟩=I sv:=aa bq 1;rw[a2] at f5;have he:mA c9 fs.length c8=mA (I ⟨df,0,U⟩) fs.length g1:=b3.symm.trans e3;injection he with hfq hq1 hq2;have hn:mA d6 fs.length b8=mA (I ⟨ak,0,U⟩) (Wr.starts fs).length g2:=a2.symm.trans d2;injection hn with hsq hq3 hq4;subst hfq;subst hsq;have hg4s:=gq.out ak (by rw[d2];rfl);have ha:N<=w.1.size:=g8.resolve_right (fun hc=>by rw[hc] at bi;simp at bi);have ct:w.1.size<w1.1.size:=(by have:=a4.out.size;omega);have bN:∀j,bz m M ci j->(j<N∨w1.1.size<=j)∧j<wr.1.size:=fun j A=>by
     refine⟨?_,a1.low j (sq A)⟩;rcases A with A | A | A
     ·exact qv (bl.out j (qv A)).1
     ·exact qv (bl.out j (sq (qv A))).1
     ·rcases be j A with D | D
      ·exact qv (bl.out j (sq (sq D))).1
      ·exact sq D
    have hT:(0:Int)<=(i:Int):=(by omega);have gn:Hid (∀y:Int,y=(a3:Int)+(bk:Int)->Calls AW 30 #[mE (I ⟨m,0,U⟩),.agg #[Y O f.kind,Y O f.number,mA sp f.cols.length bj,Y O f.seq,Y O f.first,Y O f.rows,mA a7 f.block.length a6,Y O f.index.at_,Y O f.index.frames,Y O f.index.rows,mA a9 f.index.entries.length a8],Y O y] bn.drew fun c7 J=>(∃en:Int,c7=qz (Y O en))∧(J.cell? ⟨a,1,U⟩=I (mE (I ⟨m,0,U⟩))∧J.cell? ⟨w.1.size,1,U⟩=I (mA (I ⟨ak,0,U⟩) fs.length b8)∧J.cell? ⟨ak,i,U⟩=I (Y O (bk:Int))∧J.cell? ⟨wr.1.size,0,U⟩=I (Y O f.kind)∧J.cell? ⟨wr.1.size,1,U⟩=I (Y O f.number)∧J.cell? ⟨wr.1.size,2,U⟩=I (mA sp f.cols.length bj)∧J.cell? ⟨wr.1.size,3,U⟩=I (Y O f.seq)∧J.cell? ⟨wr.1.size,4,U⟩=I (Y O f.first)∧J.cell? ⟨wr.1.size,5,U⟩=I (Y O f.rows)∧J.cell? ⟨wr.1.size,6,U⟩=I (mA a7 f.block.length a6)∧J.cell? ⟨wr.1.size,7,U⟩=I (Y O f.index.at_)∧J.cell? ⟨wr.1.size,8,U⟩=I (Y O f.index.frames)∧J.cell? ⟨wr.1.size,9,U⟩=I (Y O f.index.rows)∧J.cell? ⟨wr.1.size,10,U⟩=I (mA a9 f.index.entries.length a8))∧L19 w1 B a g m M n b9 e cb b6 q cap r.2 z.k z.c z.up E a3 N fv sv (mA ab K.length Z) G fs w.1.size (i+1) J):=by
     rintro y rfl;refine fo.mono ?_;rintro c7 J ⟨rfl,⟨g3,g4,hj,dj,e2⟩⟩;have e7:=(a1.on a0).walked hj dj e2;have co:Aside (bz m M ci) wr J:=(af a0 _).trans dj (fun _ _ h=>h);have e9:=(co.block w.1.size (ao aw) (fun hc=>by have:=(bN _ hc).1;omega)).trans aw;have hbk3:=(dj.block wr.1.size (ao cr) (fun hc=>by have:=(bN _ hc).2;omega)).trans cr;refine⟨⟨_,rfl⟩,⟨e7.cell 1,by rw[<-a2];exact aa e9 1,?_,cf hbk3⟩,⟨g3,g4,by rw[b5];exact e7,fun j A=>?_⟩,bO.aside co (fun j A=>?_) (fun j A=>?_),e9,bb.trans co (fun j A hc=>?_)⟩
     ·have:=co.cell (p:=⟨ak,i,U⟩) e4 (fun hc=>by have:=(bN ak hc).1;omega);rw[this];exact f6
     ·rcases e2 j A with D | D
      ·exact be j D
      ·exact sq (by have:=a0.size;have:=bb.size;omega)
     ·rcases(bN j A).1 with D | D
      ·rcases A with A | A | A
       ·exact(bl.out j (qv A)).2
       ·exact(bl.out j (sq (qv A))).2
       ·rcases be j A with b0 | b0
        ·exact(bl.out j (sq (sq b0))).2
        ·exact bO.all j (by omega)
      ·exact bO.all j (by omega)
     ·rcases(bN j A).1 with D | D
      ·exact qv D
      ·exact sq ⟨fun hc=>by have:=cx.out.1 j hc;omega,fun hc=>by have:=cx.out.2.1 j hc;omega,fun hc=>by have:=cx.out.2.2 j hc;omega⟩
     ·rcases hc with hc | hc | hc
      ·exact qv hc
      ·exact sq (qv hc)
      ·rcases be j hc with D | D
       ·exact sq (sq D)
       ·omega
    have gz:=gQq ck.symm;have hO:Hid True:=trivial;clear fo bN hg4s ha ct a1 be bO aw bb du b2 d4 f0 X eC fx eL cq cr a0 b1 bq ck b5 f4 bT e3 d2 fy ds b3 a2 d3 ho hf hh hg e4 us hr hq1 hq2 hq3 hq4;go_wp2_with fail;rw[gz.out]
    go_region_held3 (fun w'=>w'.cell? ⟨a,1,U⟩=I (mE (I ⟨m,0,U⟩))∧w'.cell? ⟨w.1.size,1,U⟩=I (mA (I ⟨ak,0,U⟩) fs.length b8)∧w'.cell? ⟨ak,i,U⟩=I (Y O (bk:Int))∧w'.cell? ⟨wr.1.size,0,U⟩=I (Y O f.kind)∧w'.cell? ⟨wr.1.size,1,U⟩=I (Y O f.number)∧w'.cell? ⟨wr.1.size,2,U⟩=I (mA sp f.cols.length bj)∧w'.cell? ⟨wr.1.size,3,U⟩=I (Y O f.seq)∧w'.cell? ⟨wr.1.size,4,U⟩=I (Y O f.first)∧w'.cell? ⟨wr.1.size,5,U⟩=I (Y O f.rows)∧w'.cell? ⟨wr.1.size,6,U⟩=I (mA a7 f.block.length a6)∧w'.cell? ⟨wr.1.size,7,U⟩=I (Y O f.index.at_)∧w'.cell? ⟨wr.1.size,8,U⟩=I (Y O f.index.frames)∧w'.cell? ⟨wr.1.size,9,U⟩=I (Y O f.index.rows)∧w'.cell? ⟨wr.1.size,10,U⟩=I (mA a9 f.index.entries.length a8)) (go_keep) (first|(go_at_call 30;refine(gn.out _ (xz dv ez)).mono ?_;rintro c7 J ⟨⟨en,rfl⟩,⟨gN,f5,hq,z0,z1,z2,z3,z4,hE,hF,hG,hH,hI,hD⟩,e8⟩;have gl:=gQq e8;clear e8)|fail)
    go_wp2;go_roundw;case rel=>exact⟨i+1,by omega,by go_num,gl⟩
    case measure=>simp[intOf];omega
   ·have ep:¬(i:Int)<(fs.length:Int):=(by omega);obtain rfl:i=fs.length:=by omega
    clear bi hi;go_wp2;go_ret;obtain⟨⟨ci,eq,a1,be⟩,-,-,bb⟩:=eb.out;rw[List.take_length] at a1;rw[cu.out];have hR:=a4.out.size;refine⟨rfl,⟨b9,ci,cb,b6,eq,a1,fun i hi=>(em.out i hi).imp id (fun h=>by omega),fun i hi=>(be i hi).imp id (fun h=>by omega)⟩,(((af cc.out _).trans a4.out (fun i _ hi=>qv hi)).trans bb (fun i _ hi=>sq hi))⟩
 ·have hK:((r.1:Int) != 0)=true:=by rw[bne_iff_ne];omega
  have cu:=gQq (cd.out.trans (AK cs));go_wp2;go_ret;rw[cu.out];refine⟨rfl,⟨b9,e,cb,b6,gm,⟨aj.out.lies,aj.out.dev,aj.out.walk.more (Nat.le_add_right _ _),aj.out.base,aj.out.room,aj.out.good,aj.out.calm⟩,fun i hi=>(em.out i hi).imp id (fun h=>by omega),fun i hi=>qv hi⟩,((af cc.out _).trans a4.out (fun i _ hi=>hi)).mono (fun i _ hi=>qv hi)⟩
end
end
section
open Go.RowKit Go.Maps
theorem lk{s:List Col}{l:List (List V)}(h:(Bt.pack s l).err=0):l.length<=64∧(Bt.pack s l).out.length<=2049:=by
 unfold Bt.pack at h ⊢;split at h
 ·next h0=>
  rw[AK h0];unfold Bt.err at h0;split at h0
  ·omega
  ·next h1=>
   split at h0
   ·omega
   ·split at h0
    ·omega
    ·next h3=>
     have o:Bt.numErr s l.length=0:=(by omega);unfold Bt.numErr at o;split at o
     ·omega
     ·split at o
      ·omega
      ·split at o
       ·omega
       ·have:=(Blk.pack_back (b:=Bt.bytes l) (by omega)).2.2;exact⟨by omega,by omega⟩
 ·next h0=>exact absurd h h0
theorem yy{fn:Func}{R:Ending->wv->Prop}{a:Act}{W:wv}{q u:Tmp}{o:AV}{fr:Nat×Nat}{x:AQ}(h:fn.results=#[.cell q 90,.tmp u])(D:a.tmps.getD q undef=mE (I ⟨g,0,U⟩))(K:a.tmps.getD u undef=x)(hd:a.defers=[])(A:W.1[g]?=I (qj o T fr))(J:o.size=3)(y:R (qz (.tuple #[.agg o,x])) W):bodyPost AW fn R .ret a W:=by
 refine bodyPost_ret (ek h _ _ g _ _ _ _ D A underlying90 rfl ?_) hd (by rw[K];exact y);rw[J]
 kernel_rfl
def yV(w:wv)(g:Nat)(x y z:AQ):World:=((w.setCell ⟨g,0,U⟩ x).setCell ⟨g,1,U⟩ y).setCell ⟨g,2,U⟩ z
theorem gZ{y A z0 x o z:AQ}(h:w.1[g]?=I (qj #[y,A,z0] T (0,0))):(yV w g x o z).1[g]?=I (qj #[x,o,z] T (0,0)):=bU (bU (bU h 0 x) 1 o) 2 z
theorem dG(w:wv)(g:Nat)(x o z:AQ):Aside (fun i=>i=g) w (yV w g x o z):=(((Aside.refl (fun i=>i=g) w).setCell (p:=⟨g,0,U⟩) (qv rfl) _).setCell (p:=⟨g,1,U⟩) (qv rfl) _).setCell (p:=⟨g,2,U⟩) (qv rfl) _
theorem xF{n:Int}{c:List Col}(J:Fr.i64 n)(A:∀x∈c,x.wf):(Wr.sFr n c).wf :=
 have o:Fr.i64 0:=⟨by decide,by decide⟩;have y:Fr.i64 1:=⟨by decide,by decide⟩
 ⟨y,J,A,o,o,o,⟨o,o,o⟩,fun e (D:e∈([]:List Ent))=>by cases D⟩
theorem yB{n q f r:Int}{b:L8}(J:Fr.i64 n)(K:Fr.i64 q)(D:Fr.i64 f)(Q:Fr.i64 r):(Wr.dFr n q f r b).wf :=
 have o:Fr.i64 0:=⟨by decide,by decide⟩;have y:Fr.i64 2:=⟨by decide,by decide⟩
 ⟨y,J,fun _ X=>(List.not_mem_nil X).elim,K,D,Q,⟨o,o,o⟩,fun _ A=>(List.not_mem_nil A).elim⟩
section
variable {w w':wv} {B a g m M n:Nat} {v e:AQ} {x k:Nat} {gm:Int->Option AQ} {q:OA} {cap:Nat} {z:Wr} {E:Nat->Prop} {L:List (List V)} {rq:OA} {rd:Nat}
theorem KWr.number64(h:KWr w B a g m M n v e x k gm q cap z E):Fr.i64 z.number:=by
 have o:=h.walk.good.number;unfold Wr.number;split
 ·split
  ·exact⟨by omega,by omega⟩
  ·exact⟨by omega,by omega⟩
 ·exact⟨by omega,by omega⟩
def Af(w:wv)(a g:Nat)(v:AQ)(m M:Nat)(e:AQ)(E:Nat->Prop)(r:Except Nat (List Fr))(e1:Ending)(w1:wv):Prop:=AX w.1.size w w1∧match r with
 |.error er=>e1=qz (.tuple #[.agg #[mA U 0 0,mA U 0 0,mA U 0 0],Y O (er:Nat)])
 |.ok fs=>∃fv sv bv N G,e1=qz (.tuple #[.agg #[fv,sv,bv],Y O 0])∧w.1.size<=N∧Pw w1 N fv sv bv G fs∧(∀i,j8 a g v m M e E i->G i)∧(∀f∈fs,f.wf)∧fs.length<=2
theorem jN(h:KWr w B a g m M n v e x k gm q cap z E)(c6:cP w rq rd L)(d1:Hv w):
  Calls AW 34 #[mE (I ⟨a,0,U⟩),mA rq L.length rd] w (Af w a g v m M e E (z.piece L)):=by
 obtain⟨ah,bb⟩:∃ah,ah=w.alloc (qj #[mA U 0 0,mA U 0 0,mA U 0 0] 90):=⟨_,rfl⟩;have a7:AX w.1.size w ah:=by rw[bb];exact gQy
 have bX:=h.on a7;have A:=gQq bX;have d4:=gQq h.low;have d2:=gQq h;have Z:=gQq a7;have cq:=gQq bb.symm;have dr:ah.1[w.1.size]?=I (qj #[mA U 0 0,mA U 0 0,mA U 0 0] 90 (0,0)):=by rw[bb];exact am w _
 have a1:=gQq dr;have c8:dZ ah q cap z.c:=by
  have:=h.room;have K:=bX.calm ah (Aside.refl _ _);exact⟨this.2,this.1,K,fun x eC=>(h.good.2 x eC).2⟩
 have bp:=gQq (xN xG z.c q cap L rq rd ah c8 (c6.on a7));have a0:Hid (z.piece L=if (Bt.pack z.c L).err≠0 then .error (Bt.pack z.c L).err else .ok ((if z.due=true then [Wr.sFr z.number z.c] else [])++[Wr.dFr z.number z.k.frames z.k.rows (L.length:Nat) (Bt.pack z.c L).out])):=rfl;have cp:Hid ((Bt.pack z.c L).err=0->L.length<=64∧(Bt.pack z.c L).out.length<=2049):=lk;obtain⟨r,dv⟩:∃r,r=Bt.pack z.c L:=⟨_,rfl⟩;rw[<-dv] at bp a0 cp;obtain⟨R,c7⟩:∃R,R=z.piece L:=⟨_,rfl⟩;rw[<-c7] at a0 ⊢;have eg:∀o,(w.alloc o).cell? ⟨a,2,U⟩=I (mA q z.c.length cap):=fun o=>ae (gQz.alloc gQx o) (h.cell 2);have bl:=gQq (d1.next a7);clear h bX c8 c6 dv c7 d1 bb a7 dr;go_enter func34,ntmps34;go_wp2_with fail;rw[cq.out];refine bp.out.mono ?_;rintro e9 w1 ⟨cu,e6,ct,rfl,rfl,df,c9⟩;have cb:=gQq df;have HB1:=gQq c9;clear df c9 bp eg;by_cases a8:r.err=0
 ·have a6:=gQq (a0.out.trans (AJ (fun K=>K a8)));rw[a8,show((0:Nat):Int)=0 from rfl];have d7:=gQq a8;clear a0 a8;obtain⟨fx,fy⟩:=cp.out d7.out;obtain⟨cs,bc⟩:∃W,W=w1.alloc (qj #[mA U 0 0,mA U 0 0,mA U 0 0] 90):=⟨_,rfl⟩;have be:AX w1.1.size w1 cs:=by rw[bc];exact gQy
  have f5:=HB1.out.size;have f4:ah.1.size=w.1.size+1:=by rw[<-cq.out];simp
  obtain⟨G,a3⟩:∃G:Nat->Prop,G=fun i=>j8 a g v m M e E i∨i=w.1.size∨w1.1.size<=i:=⟨_,rfl⟩;have du:Pc w1 cs w1.1.size (mA U 0 0) (mA U 0 0) (mA U 0 0) G [] [] []:=⟨by rw[bc];exact am w1 _,gQx,iY _ _,iY _ _,bF _ _,be,fun i D=>by rw[a3];exact sq (sq D)⟩;have ds:∀i,j8 a g v m M e E i->i<w.1.size:=fun i D=>by
   have:=d4.out i D;omega
  -- the frames lie still
  have d0:∀W,AX w1.1.size w1 W->iO G (Wr.sFr z.number z.c) (aG 1 z.number q z.c.length cap 0 0 0 U 0 0 0 0 0 U 0 0).toList W:=fun W hb w' b0=>by
   have eq:=(Z.out.trans (HB1.out.mono Z.out.size)).trans (hb.mono (by omega));have er:=d2.out.calm w' ((af eq _).trans b0 (fun i D a4=>by
    rw[a3] at a4;rcases a4 with a4 | a4 | a4
    ·exact a4
    ·omega
    ·omega))
   exact⟨q,cap,U,0,U,0,rfl,A.out.room.2,A.out.room.1,er,by simp[Wr.sFr],by simp[Wr.sFr],qv rfl,by simp[Wr.sFr,jV],by simp[Wr.sFr,jV],jz _ _⟩
  have dj:∀W,AX w1.1.size w1 W->iO G (Wr.dFr z.number z.k.frames z.k.rows (L.length:Nat) r.out) (aG 2 z.number U 0 0 z.k.frames z.k.rows (L.length:Nat) cu r.out.length ct 0 0 0 U 0 0).toList W:=fun W hb w' b0=>by
   have ev:=(cb.out.on hb).aside b0 (fun i D K=>by
    rw[a3] at K;have:=cb.out.lt i D;rcases K with K | K | K
    ·have:=ds i K;omega
    ·omega
    ·omega)
   obtain⟨f6,e8,b5,ep,ez⟩:=ev.at;injection b5 with b5 _ hec;subst b5 hec;exact⟨U,0,cu,ct,U,0,rfl,by simp[Wr.dFr],by simp[Wr.dFr],(fun j ew=>by cases ew),by simp[Wr.dFr];omega,ez,ep,by simp[Wr.dFr,jV],by simp[Wr.dFr,jV],jz _ _⟩
  have cr:Hid (Wr.sFr z.number z.c).wf:=xF A.out.number64 (fun c K=>(A.out.good.2 c K).2);have a9:Hid (Wr.dFr z.number z.k.frames z.k.rows (L.length:Nat) r.out).wf:=by
   have f0:=A.out.walk.good.frames;have f3:=A.out.walk.good.since;have f2:=A.out.walk.good.rows;exact yB A.out.number64 ⟨by omega,by omega⟩ ⟨by omega,by omega⟩ ⟨by omega,by omega⟩
  have ck:=gQq (rH ((A.out.on HB1.out).on be));have d6:=gQq du;have d8:=gQq d0;have cd:=gQq dj;have b9:=gQq be;have ci:Hid (∀i,j8 a g v m M e E i->G i):=fun i D=>by rw[a3];exact qv D
  have cj:Hid (G w.1.size):=by show G _;rw[a3];exact sq (qv rfl)
  have d9:=gQq bc.symm;clear du d0 dj be bc a3 ds;go_wp2_with fail;rw[d9.out];refine ck.out.mono ?_;rintro fc f8 ⟨rfl,b2⟩;have bj:=gQq (b9.out.trans (b2.mono b9.out.size));have cc:=gQq (yf ((A.out.on HB1.out).on bj.out));have cn:=gQq (d6.out.on b2);clear b2 ck;go_wp2_with fail;refine cc.out.mono ?_;rintro fi w4 ⟨rfl,b3⟩;have ab:=gQq (bj.out.trans (b3.mono bj.out.size));have co:=gQq (cn.out.on b3);clear b3 cc cn;obtain⟨bT,b4⟩:∃bT,bT=z.due:=⟨_,rfl⟩;rw[<-b4] at a6 ⊢;have e5:=gQq b4;clear b4;have c2:w4.cell? ⟨a,2,U⟩=I (mA q z.c.length cap):=((A.out.on HB1.out).on ab.out).cell 2;cases bT with
  |true=>
   have bN:Hid (∀f∈[Wr.sFr z.number z.c]++[Wr.dFr z.number z.k.frames z.k.rows (L.length:Nat) r.out],f.wf):=fun f ak=>by
    rcases List.mem_append.1 ak with ak | ak
    ·rw[List.mem_singleton.1 ak];exact cr.out
    ·rw[List.mem_singleton.1 ak];exact a9.out
   have b8:=gQq (qA co.out (Wr.sFr z.number z.c) cr.out _ (d8.out w4 ab.out) ((bl.out.next HB1.out).next ab.out) (by simp) (by simp[Wr.bytes]));go_wp2_with fail;refine b8.out.mono ?_;rintro a2 w5 ⟨rfl,fo,f7,e7,b6,-⟩;have d5:=gQq b6;have a5:=gQq b6.below;clear b6 b8;have bO:w5.cell? ⟨a,1,U⟩=I (mE (I ⟨m,0,U⟩)):=((A.out.on HB1.out).on a5.out).cell 1;have bk:=gQq (i6 ((A.out.on HB1.out).on (a5.out.drew)).walk);have bq:=gQq (qb ((A.out.on HB1.out).on (a5.out.drew)).walk);have bi:=gQq (qA (d5.out.on gQz.drew) (Wr.dFr z.number z.k.frames z.k.rows (L.length:Nat) r.out) a9.out _ (cd.out _ a5.out.drew) ((bl.out.next HB1.out).next a5.out.drew) (by simp) (AG (Wr.bytes_most _) (by simp)));clear c2;go_wp2_with fail
   go_region_held3 (fun w'=>w'.cell? ⟨a,1,U⟩=I (mE (I ⟨m,0,U⟩))) (go_keep) (first|(go_at_call 20;refine bk.out.mono ?_;rintro a2 w' ⟨rfl,X⟩;rw[X];clear X w')|(go_at_call 12;refine bq.out.mono ?_;rintro a2 w' ⟨rfl,X⟩;rw[X];clear X w')|(go_at_call 57;refine bi.out.mono ?_;rintro a2 Q ⟨rfl,en,e1,ec,aw,b1⟩;have y:=gQq aw;have bO:Q.cell? ⟨a,1,U⟩=I (mE (I ⟨m,0,U⟩)):=((A.out.on HB1.out).on aw.below).cell 1;clear aw b1)|fail)
   all_goals
    obtain⟨em,el,rfl,-⟩:=y.out.frames.form;obtain⟨e0,eL,rfl,-⟩:=y.out.starts.form;obtain⟨eb,ea,rfl,-,-⟩:=y.out.bytes.at;have e2:Q.cell? ⟨w1.1.size,0,U⟩=I _:=y.out.cell 0;have e3:Q.cell? ⟨w1.1.size,1,U⟩=I _:=y.out.cell 1;have e4:Q.cell? ⟨w1.1.size,2,U⟩=I _:=y.out.cell 2;have J:=(y.out.below.block _ (by omega)).trans ((HB1.out.block _ (ao a1.out)).trans a1.out);have cv:=aa J 0;have cw:=aa J 1;have cx:=aa J 2;have cy:=ac J 0;have f1:=ac J 1;have c5:=ac J 2;have bn:=gQq J;clear J;go_wp2;refine yy rfl rfl rfl rfl (gZ bn.out) rfl ⟨?_,?_⟩
    ·exact((Z.out.trans (HB1.out.mono Z.out.size)).trans (y.out.below.mono (by omega))).trans ((dG Q w.1.size _ _ _).below (by have:=y.out.below.size;omega) (fun i D K=>by omega))
    ·rw[a6.out];refine⟨_,_,_,w1.1.size,G,rfl,by omega,y.out.pw.aside (dG Q w.1.size _ _ _) (fun i D=>by rw[D];exact cj.out) (fun i D=>qv (by omega)),ci.out,bN.out,by simp⟩
  |false=>
   have bN:Hid (∀f∈([]:List Fr)++[Wr.dFr z.number z.k.frames z.k.rows (L.length:Nat) r.out],f.wf):=fun f ak=>by
    rw[List.mem_singleton.1 ak];exact a9.out
   have bO:w4.cell? ⟨a,1,U⟩=I (mE (I ⟨m,0,U⟩)):=((A.out.on HB1.out).on ab.out).cell 1;have bk:=gQq (i6 ((A.out.on HB1.out).on (ab.out.drew)).walk);have bq:=gQq (qb ((A.out.on HB1.out).on (ab.out.drew)).walk);have bi:=gQq (qA (co.out.on gQz.drew) (Wr.dFr z.number z.k.frames z.k.rows (L.length:Nat) r.out) a9.out _ (cd.out _ ab.out.drew) ((bl.out.next HB1.out).next ab.out.drew) (by simp) (AG (Wr.bytes_most _) (by simp)));clear c2;go_wp2_with fail
   go_region_held3 (fun w'=>w'.cell? ⟨a,1,U⟩=I (mE (I ⟨m,0,U⟩))) (go_keep) (first|(go_at_call 20;refine bk.out.mono ?_;rintro a2 w' ⟨rfl,X⟩;rw[X];clear X w')|(go_at_call 12;refine bq.out.mono ?_;rintro a2 w' ⟨rfl,X⟩;rw[X];clear X w')|(go_at_call 57;refine bi.out.mono ?_;rintro a2 Q ⟨rfl,en,e1,ec,aw,b1⟩;have y:=gQq aw;have bO:Q.cell? ⟨a,1,U⟩=I (mE (I ⟨m,0,U⟩)):=((A.out.on HB1.out).on aw.below).cell 1;clear aw b1)|fail)
   all_goals
    obtain⟨em,el,rfl,-⟩:=y.out.frames.form;obtain⟨e0,eL,rfl,-⟩:=y.out.starts.form;obtain⟨eb,ea,rfl,-,-⟩:=y.out.bytes.at;have e2:Q.cell? ⟨w1.1.size,0,U⟩=I _:=y.out.cell 0;have e3:Q.cell? ⟨w1.1.size,1,U⟩=I _:=y.out.cell 1;have e4:Q.cell? ⟨w1.1.size,2,U⟩=I _:=y.out.cell 2;have J:=(y.out.below.block _ (by omega)).trans ((HB1.out.block _ (ao a1.out)).trans a1.out);have cv:=aa J 0;have cw:=aa J 1;have cx:=aa J 2;have cy:=ac J 0;have f1:=ac J 1;have c5:=ac J 2;have bn:=gQq J;clear J;go_wp2;refine yy rfl rfl rfl rfl (gZ bn.out) rfl ⟨?_,?_⟩
    ·exact((Z.out.trans (HB1.out.mono Z.out.size)).trans (y.out.below.mono (by omega))).trans ((dG Q w.1.size _ _ _).below (by have:=y.out.below.size;omega) (fun i D K=>by omega))
    ·rw[a6.out];refine⟨_,_,_,w1.1.size,G,rfl,by omega,y.out.pw.aside (dG Q w.1.size _ _ _) (fun i D=>by rw[D];exact cj.out) (fun i D=>qv (by omega)),ci.out,bN.out,by simp⟩
 ·have fq:((r.err:Int) != 0)=true:=by rw[bne_iff_ne];omega
  have a6:=gQq (a0.out.trans (AK a8));have aj:=(HB1.out.block _ (ao a1.out)).trans a1.out;have cv:=aa aj 0;have cw:=aa aj 1;have cx:=aa aj 2;have cy:=ac aj 0;have f1:=ac aj 1;have c5:=ac aj 2;clear a0;have d3:=gQq aj;clear aj;go_wp2;refine yy rfl rfl rfl rfl (gZ d3.out) rfl ⟨(Z.out.trans (HB1.out.mono Z.out.size)).trans ((dG w1 w.1.size _ _ _).below (by have:=Z.out.size;have:=HB1.out.size;omega) (fun i D K=>by omega)),?_⟩;rw[a6.out];rfl
end
end
end Go.Proofs.YtngmnfdaedlodaaGreatDoor
