import Derived.Test.YtbahfgdbjgkklaaGreatDoorB21
import Derived.Handy
set_option maxRecDepth 100000
set_option maxHeartbeats 4000000
namespace Go.Proofs.YtbahfgdbjgkklaaGreatDoor
variable{f:Fr}
section
open Go.RowKit
theorem qg(n:Int)(sp:OA)(z y:Nat)(q O r:Int)(J:OA)(I E:Nat)(Q S U:Int)(M:OA)(L K:Nat)(w:World):
  Calls Tryz.prog 56 #[.agg #[.int .i64 1,.int .i64 n,.slice sp z y,.int .i64 q,.int .i64 O,.int .i64 r,.slice J I E,.int .i64 Q,.int .i64 S,.int .i64 U,.slice M L K]] w fun e w'=>e=.returned (.tuple #[.iface 165 (.agg #[.int .i64 n,.slice sp z y]),.bool true])∧Below w.1.size w w':=by
 have D:Hid (∀o,Below w.1.size w (w.alloc o)):=fun o=>gQy;go_enter Tryz.func56,Tryz.ntmps56;go_wp2;go_ret2;exact⟨rfl,D.out _⟩
theorem qf(n:Int)(sp:OA)(U S:Nat)(q D r:Int)(z:OA)(y o:Nat)(M O Q:Int)(L:OA)(K J:Nat)(w:World):
  Calls Tryz.prog 56 #[.agg #[.int .i64 2,.int .i64 n,.slice sp U S,.int .i64 q,.int .i64 D,.int .i64 r,.slice z y o,.int .i64 M,.int .i64 O,.int .i64 Q,.slice L K J]] w fun e w'=>e=.returned (.tuple #[.iface 167 (.agg #[.int .i64 n,.int .i64 q,.int .i64 D,.int .i64 r,.slice z y o]),.bool true])∧Below w.1.size w w':=by
 have I:Hid (∀E,Below w.1.size w (w.alloc E)):=fun E=>gQy;go_enter Tryz.func56,Tryz.ntmps56;go_wp2;go_ret2;exact⟨rfl,I.out _⟩
end
section
open Go.RowKit
def encErr(f:Fr):Nat:=if f.kind=1 then dW f.number f.cols else if f.kind=2 then ft f.number f.seq f.first f.rows f.block else Fr.idxErr f.index
theorem gT(l:List Int):(Fr.nums l).length<=10*l.length:=by
 induction l with
 |nil=>simp[Fr.nums_nil]
 |cons n l ih=>
  rw[Fr.nums_cons,List.length_append,List.length_cons];have:=Leb.put_length_le n.toNat;omega
theorem vh(es:List Ent):(es.map Fr.entB).flatten.length<=es.length*30:=Sch.flatten_le Fr.entB 30 es (fun e _=>gT [e.at_,e.row,e.sch])
theorem md(y:f.kind=2):f.block.length<(Fr.run f).length:=by
 have o:=(Cob.stuff_length (Fr.check (Fr.head f))).1;have z:f.block.length<=(Fr.head f).length:=by
  unfold Fr.head Fr.fields;rw[if_neg (by omega),if_pos y,List.length_cons,List.length_append];omega
 rw[Fr.check_length] at o;unfold Fr.run;omega
theorem rh(o:f.kind=1∨f.kind=2∨f.kind=3)(h:encErr f≠0):Fr.err f=encErr f:=by
 rcases o with o | o | o
 ·have e:Fr.err0 f=dW f.number f.cols:=by unfold Fr.err0;rw[if_pos o];rfl
  have y:encErr f=dW f.number f.cols:=by unfold encErr;rw[if_pos o]
  rw[y] at h ⊢;unfold Fr.err;rw[e,if_pos h]
 ·have e:Fr.err0 f=if (Fr.within Fr.N f.number&&Fr.within Fr.S f.seq&&Fr.within Fr.S f.first&&decide (1<=f.rows∧f.rows<=64))=false then 7 else 0:=by unfold Fr.err0;rw[if_neg (by omega),if_pos o]
  have y:encErr f=ft f.number f.seq f.first f.rows f.block:=by unfold encErr;rw[if_neg (by omega),if_pos o]
  rw[y] at h ⊢;unfold Fr.err;unfold ft at h ⊢;by_cases z:(Fr.within Fr.N f.number&&Fr.within Fr.S f.seq&&Fr.within Fr.S f.first&&decide (1<=f.rows∧f.rows<=64))=false
  ·rw[e,if_pos z,if_pos z,if_pos (by omega)]
  ·rw[if_neg z] at h ⊢;by_cases D:2200<f.block.length
   ·have:=md o;rw[e,if_neg z,if_neg (by omega),if_pos D,if_pos (by omega)]
   ·rw[if_neg D] at h;omega
 ·have e:Fr.err0 f=Fr.idxErr f.index:=by unfold Fr.err0;rw[if_neg (by omega),if_neg (by omega),if_pos o]
  have y:encErr f=Fr.idxErr f.index:=by unfold encErr;rw[if_neg (by omega),if_neg (by omega)]
  rw[y] at h ⊢;unfold Fr.err;rw[e,if_pos h]
theorem vo(o:f.kind=1∨f.kind=2∨f.kind=3)(h:encErr f=0):Fr.err f=(if 2200<(Fr.run f).length then 2 else 0)∧(Fr.fields f).length<=5000:=by
 unfold encErr at h;unfold Fr.err;rcases o with o | o | o
 ·have e:Fr.err0 f=dW f.number f.cols:=by unfold Fr.err0;rw[if_pos o];rfl
  rw[if_pos o] at h;refine⟨by rw[e,if_neg (by omega)],?_⟩;unfold dW at h;split at h
  ·omega
  ·have E:=(Sch.err_open h).2.2.2;have y:=gT [f.number];unfold Fr.fields;rw[if_pos o,List.length_append];simp at y;omega
 ·rw[if_neg (by omega),if_pos o] at h;have e:Fr.err0 f=if (Fr.within Fr.N f.number&&Fr.within Fr.S f.seq&&Fr.within Fr.S f.first&&decide (1<=f.rows∧f.rows<=64))=false then 7 else 0:=by unfold Fr.err0;rw[if_neg (by omega),if_pos o]
  unfold ft at h;by_cases D:(Fr.within Fr.N f.number&&Fr.within Fr.S f.seq&&Fr.within Fr.S f.first&&decide (1<=f.rows∧f.rows<=64))=false
  ·rw[if_pos D] at h;omega
  ·rw[if_neg D] at h;by_cases y:2200<f.block.length
   ·rw[if_pos y] at h;omega
   ·refine⟨by rw[e,if_neg D,if_neg (by omega)],?_⟩;have z:=gT [f.number,f.seq,f.first,f.rows];unfold Fr.fields;rw[if_neg (by omega),if_pos o,List.length_append];simp at z;omega
 ·have e:Fr.err0 f=Fr.idxErr f.index:=by unfold Fr.err0;rw[if_neg (by omega),if_neg (by omega),if_pos o]
  rw[if_neg (by omega),if_neg (by omega)] at h;refine⟨by rw[e,if_neg (by omega)],?_⟩;have J:f.index.entries.length<=64:=by
   unfold Fr.idxErr at h;split at h
   ·omega
   ·split at h
    ·omega
    ·omega
  have z:=gT [f.index.at_,f.index.frames,f.index.rows,(f.index.entries.length:Int)];have I:=vh f.index.entries;unfold Fr.fields;rw[if_neg (by omega),if_neg (by omega),List.length_append];simp at z;omega
theorem uX{w:World}{B:Nat}{p:OA}{n c:Nat}{l:L8}(h:Has w B (.slice p n c) l):At w p l∧l.length<=c:=by
 obtain⟨E,D,z,o,y⟩:=h.at;injection z with e1 e2 e3;subst e1 e3;exact⟨o,y⟩
theorem sX(f:Fr)(J:f.kind=1)(ce:f.wf)(u:AV)(w:World)(cd:Hv w)(h:iu w u f):
    Calls Tryz.prog 27 #[.agg u] w (tq w (Fr.err f) (0::(Fr.run f++[0]))):=by
  obtain⟨sp,Y,a2,a1,a4,a3,rfl,b5,cy,b6,di,dj,b7,dk,dn,b8⟩:=h.out;unfold bJ;obtain⟨I,a8⟩:∃I,I=Fr.err f:=⟨_,rfl⟩;obtain⟨y,be⟩:∃y,y=Fr.run f:=⟨_,rfl⟩;rw[<-a8,<-be];have br:=gQq a8;have bX:=gQq be;have bN:=gQq J;have b1:=gQq ce;have cj:=gQq b6;have da:=gQq b7;have db:=gQq b8;have cn:=gQq cd;have D:Hid (encErr f=dW f.number f.cols):=by show _=_;unfold encErr;rw[if_pos J]
  have U:Hid (Fr.head f=1::(Fr.nums [f.number]++Sch.bytes f.cols)):=by
    show _=_;unfold Fr.head Fr.fields;rw[if_pos J];rw[J];rfl
  rw[J];obtain⟨w0,Q⟩:∃w0,w0=w.alloc (.cells #[.int .i64 1,.int .i64 f.number,.slice sp f.cols.length Y,.int .i64 f.seq,.int .i64 f.first,.int .i64 f.rows,.slice a2 f.block.length a1,.int .i64 f.index.at_,.int .i64 f.index.frames,.int .i64 f.index.rows,.slice a4 f.index.entries.length a3] 67):=⟨_,rfl⟩;have dv:w0.1.size=w.1.size+1:=by rw[Q];simp
  have cg:Hid (Below w.1.size w w0):=by rw[Q];exact gQy
  have c0:w0.cell? ⟨w.1.size,0,none⟩=some (.int .i64 1):=by rw[Q];simp
  have b0:Hid (w.alloc (.cells #[.int .i64 1,.int .i64 f.number,.slice sp f.cols.length Y,.int .i64 f.seq,.int .i64 f.first,.int .i64 f.rows,.slice a2 f.block.length a1,.int .i64 f.index.at_,.int .i64 f.index.frames,.int .i64 f.index.rows,.slice a4 f.index.entries.length a3] 67)=w0):=by rw[Q];exact rfl
  have bs:=gQq (qg f.number sp f.cols.length Y f.seq f.first f.rows a2 f.block.length a1 f.index.at_ f.index.frames f.index.rows a4 f.index.entries.length a3 w0);clear a8 be J ce b6 b7 b8 cd h Q;go_enter Tryz.func27,Tryz.ntmps27;go_wp2_with fail;rw[b0.out];refine bs.out.mono ?_;rintro e w1 ⟨rfl,hb⟩;have ab:=gQq (cg.out.trans (hb.mono (by omega)));have c1:=ae hb c0;have c6:=hb.size;clear hb bs b0 c0;have S:=gQq (pA f.number b1.out.2.1 f.cols sp Y w1 b5 (cj.out.on ab.out) b1.out.2.2.1);obtain⟨V,a7⟩:∃V,V=dW f.number f.cols:=⟨_,rfl⟩;obtain⟨X,bb⟩:∃X,X=(Fr.nums [f.number]++Sch.bytes f.cols):=⟨_,rfl⟩;rw[<-a7,<-bb] at S;rw[<-a7] at D;rw[<-bb] at U;clear a7 bb;go_wp2_with fail;refine S.out.mono ?_;rintro e z (⟨K,q,cap,rfl,o,hb⟩ | ⟨K,rfl,hb⟩)
  · have L:=gQq (ab.out.trans (hb.mono (by omega)));have c2:=ae hb c1;have bi:=L.out.size;have bk:=gQq (uX o).1;have bc:=vo (f:=f) (by have:=bN.out;omega) (D.out.trans K);have dr:X.length<=5000:=by
      have b5:(Fr.head f).length=X.length+1:=(by rw[U.out];rfl);have cy:(Fr.head f).length=(Fr.fields f).length+1:=rfl;have:=bc.2;omega
    have bT:=gQq bc.1;have ak:Hid (Has (z.alloc (.cells #[.int .u8 1] 5)) z.1.size (.slice (some ⟨z.1.size,0,none⟩) 1 1) [1]):=dC (B:=z.1.size) [1] rfl gQx (by decide);have aj:Hid (Below z.1.size z (z.alloc (.cells #[.int .u8 1] 5))):=gQy;have bn:=gQq (bk.out.on aj.out);clear o hb S K bc D c1 c6
    go_wp2_with (first|(at_builtin;refine aE (xs:=[1]) ak.out bn.out (by simp;omega) (by simp) rfl rfl rfl rfl rfl ?_;intro Z c9 ct W cr o O a9;have M:=gQq (aj.out.trans (aB O ak.out (by simp)));have b2:=gQq o;clear O a9 o)|fail)
    have bj:Z=Fr.head f:=(by rw[cr.out,U.out];rfl);have ds:Z.length<=5001:=(by rw[bj,U.out,List.length_cons];omega);have cq:Hid (y=Cob.stuff (Fr.check Z)):=(by show _=_;rw[bX.out,bj];rfl);have c7:=M.out.size;have c4:=ae M.out c2;refine(xE z.1.size c9 ct Z (by omega) W (cn.out.next (L.out.trans (M.out.mono bi))) b2.out c7).mono ?_;rintro e w5 ⟨dh,d1,de,rfl,a6,dp,c5,hb⟩;rw[<-cq.out] at a6 c5 ⊢;have ah:=gQq ((L.out.trans (M.out.mono bi)).trans (hb.mono bi));have cc:=ah.out.size;have ck:=gQq a6;have E:Hid (I=if 2200<y.length then 2 else 0):=(by show _=_;rw[br.out,bT.out,bX.out]);clear bj a6 hb c2 c4 b2 bT bk bn ak aj M;by_cases a5:2200<y.length
    · have b4:(2200:Int)<(y.length:Int):=(by omega);have a0:Hid (I=2):=E.out.trans (if_pos a5);clear E a5;go_wp2;go_ret2;rw[a0.out];exact cC (by omega) ah.out
    · have b4:¬(2200:Int)<(y.length:Int):=(by omega);have a0:Hid (I=0):=E.out.trans (if_neg a5);clear E;have bO:Hid (Has (w5.alloc (.cells #[.int .u8 0] 5)) w5.1.size (.slice (some ⟨w5.1.size,0,none⟩) 1 1) [0]):=dC (B:=w5.1.size) [0] rfl gQx (by decide);have bq:Hid (Below w5.1.size w5 (w5.alloc (.cells #[.int .u8 0] 5))):=gQy;have cf:=gQq (ck.out.at.on bq.out)
      go_wp2_with (first|(at_builtin;refine aE (xs:=[0]) bO.out cf.out (by simp;omega) (by simp) rfl rfl rfl rfl rfl ?_;intro zs d2 df dc b3 o O a9;have bp:=gQq (bq.out.trans (aB O bO.out (by simp)));have cs:=gQq o;have c8:=bp.out.size;have d0:zs.length<=2300:=(by rw[b3.out,List.length_append,List.length_singleton];omega);clear O a9 o)|(at_builtin;refine eX cs.out 0 (by omega) c8 rfl rfl rfl rfl rfl rfl ?_;intro cx cu dd cb b9;have co:=gQq cb;have ci:=gQq b9;clear cb b9)|fail)
      go_ret2;have cw:0::(y++[0])=zs++[0]:=(by rw[b3.out];rfl);have cv:(zs++[0]).length=zs.length+1:=(by simp);rw[cw];refine .inl ⟨a0.out,some ⟨cx,0,none⟩,cu,by rw[cv];rfl,(bh.has co.out).lower cc,ah.out.trans ((bp.out.trans ci.out).mono cc)⟩
  · have L:=gQq (ab.out.trans (hb.mono (by omega)));have ca:=rh (f:=f) (by have:=bN.out;omega) (by rw[D.out];exact K);have E:Hid (I=V):=(by show _=_;rw[br.out,ca,D.out]);have b4:((V:Int) != 0)=true:=(by rw[bne_iff_ne];omega);have cp:=gQq K;clear hb ca S D K;go_wp2;go_ret2;rw[E.out];exact cC cp.out L.out
theorem sW(f:Fr)(J:f.kind=2)(cd:f.wf)(u:AV)(w:World)(cc:Hv w)(h:iu w u f):
    Calls Tryz.prog 27 #[.agg u] w (tq w (Fr.err f) (0::(Fr.run f++[0]))):=by
  obtain⟨sp,bk,Y,X,a4,a3,rfl,cx,cy,b5,c5,dj,b6,dk,dn,b7⟩:=h.out;unfold bJ;obtain⟨I,a8⟩:∃I,I=Fr.err f:=⟨_,rfl⟩;obtain⟨y,be⟩:∃y,y=Fr.run f:=⟨_,rfl⟩;rw[<-a8,<-be];have bs:=gQq a8;have b0:=gQq be;have bO:=gQq J;have V:=gQq cd;have db:=gQq b5;have cf:=gQq b6;have dc:=gQq b7;have ck:=gQq cc;have D:Hid (encErr f=ft f.number f.seq f.first f.rows f.block):=by show _=_;unfold encErr;rw[if_neg (by omega),if_pos J]
  have U:Hid (Fr.head f=2::(Fr.nums [f.number,f.seq,f.first,f.rows]++f.block)):=by
    show _=_;unfold Fr.head Fr.fields;rw[if_neg (by omega),if_pos J];rw[J];rfl
  rw[J];obtain⟨w0,Q⟩:∃w0,w0=w.alloc (.cells #[.int .i64 2,.int .i64 f.number,.slice sp f.cols.length bk,.int .i64 f.seq,.int .i64 f.first,.int .i64 f.rows,.slice Y f.block.length X,.int .i64 f.index.at_,.int .i64 f.index.frames,.int .i64 f.index.rows,.slice a4 f.index.entries.length a3] 67):=⟨_,rfl⟩;have dv:w0.1.size=w.1.size+1:=by rw[Q];simp
  have cg:Hid (Below w.1.size w w0):=by rw[Q];exact gQy
  have c0:w0.cell? ⟨w.1.size,0,none⟩=some (.int .i64 2):=by rw[Q];simp
  have b1:Hid (w.alloc (.cells #[.int .i64 2,.int .i64 f.number,.slice sp f.cols.length bk,.int .i64 f.seq,.int .i64 f.first,.int .i64 f.rows,.slice Y f.block.length X,.int .i64 f.index.at_,.int .i64 f.index.frames,.int .i64 f.index.rows,.slice a4 f.index.entries.length a3] 67)=w0):=by rw[Q];exact rfl
  have bN:=gQq (qf f.number sp f.cols.length bk f.seq f.first f.rows Y f.block.length X f.index.at_ f.index.frames f.index.rows a4 f.index.entries.length a3 w0);clear a8 be J cd b5 b6 b7 cc h Q;go_enter Tryz.func27,Tryz.ntmps27;go_wp2_with fail;rw[b1.out];refine bN.out.mono ?_;rintro e w1 ⟨rfl,hb⟩;have aj:=gQq (cg.out.trans (hb.mono (by omega)));have c1:=ae hb c0;have c7:=hb.size;clear hb bN b1 c0;have S:=gQq (vz f.number f.seq f.first f.rows V.out.2.1 V.out.2.2.2.1 V.out.2.2.2.2.1 V.out.2.2.2.2.2.1 f.block Y X w1 c5 (cf.out.on aj.out));obtain⟨Z,a7⟩:∃Z,Z=ft f.number f.seq f.first f.rows f.block:=⟨_,rfl⟩;obtain⟨ab,bb⟩:∃ab,ab=(Fr.nums [f.number,f.seq,f.first,f.rows]++f.block):=⟨_,rfl⟩;rw[<-a7,<-bb] at S;rw[<-a7] at D;rw[<-bb] at U;clear a7 bb;go_wp2_with fail;refine S.out.mono ?_;rintro e z (⟨K,q,cap,rfl,o,hb⟩ | ⟨K,rfl,hb⟩)
  · have L:=gQq (aj.out.trans (hb.mono (by omega)));have c2:=ae hb c1;have bi:=L.out.size;have bn:=gQq (uX o).1;have bc:=vo (f:=f) (by have:=bO.out;omega) (D.out.trans K);have dr:ab.length<=5000:=by
      have cx:(Fr.head f).length=ab.length+1:=(by rw[U.out];rfl);have cy:(Fr.head f).length=(Fr.fields f).length+1:=rfl;have:=bc.2;omega
    have bX:=gQq bc.1;have a1:Hid (Has (z.alloc (.cells #[.int .u8 2] 5)) z.1.size (.slice (some ⟨z.1.size,0,none⟩) 1 1) [2]):=dC (B:=z.1.size) [2] rfl gQx (by decide);have a0:Hid (Below z.1.size z (z.alloc (.cells #[.int .u8 2] 5))):=gQy;have bp:=gQq (bn.out.on a0.out);clear o hb S K bc D c1 c7
    go_wp2_with (first|(at_builtin;refine aE (xs:=[2]) a1.out bp.out (by simp;omega) (by simp) rfl rfl rfl rfl rfl ?_;intro ah da cs W cq o O a9;have M:=gQq (a0.out.trans (aB O a1.out (by simp)));have b2:=gQq o;clear O a9 o)|fail)
    have bj:ah=Fr.head f:=(by rw[cq.out,U.out];rfl);have ds:ah.length<=5001:=(by rw[bj,U.out,List.length_cons];omega);have cp:Hid (y=Cob.stuff (Fr.check ah)):=(by show _=_;rw[b0.out,bj];rfl);have c8:=M.out.size;have c4:=ae M.out c2;refine(xE z.1.size da cs ah (by omega) W (ck.out.next (L.out.trans (M.out.mono bi))) b2.out c8).mono ?_;rintro e w5 ⟨di,d1,df,rfl,a6,dp,c6,hb⟩;rw[<-cp.out] at a6 c6 ⊢;have ak:=gQq ((L.out.trans (M.out.mono bi)).trans (hb.mono bi));have cb:=ak.out.size;have cj:=gQq a6;have E:Hid (I=if 2200<y.length then 2 else 0):=(by show _=_;rw[bs.out,bX.out,b0.out]);clear bj a6 hb c2 c4 b2 bX bn bp a1 a0 M;by_cases a5:2200<y.length
    · have b4:(2200:Int)<(y.length:Int):=(by omega);have a2:Hid (I=2):=E.out.trans (if_pos a5);clear E a5;go_wp2;go_ret2;rw[a2.out];exact cC (by omega) ak.out
    · have b4:¬(2200:Int)<(y.length:Int):=(by omega);have a2:Hid (I=0):=E.out.trans (if_neg a5);clear E;have bT:Hid (Has (w5.alloc (.cells #[.int .u8 0] 5)) w5.1.size (.slice (some ⟨w5.1.size,0,none⟩) 1 1) [0]):=dC (B:=w5.1.size) [0] rfl gQx (by decide);have br:Hid (Below w5.1.size w5 (w5.alloc (.cells #[.int .u8 0] 5))):=gQy;have ce:=gQq (cj.out.at.on br.out)
      go_wp2_with (first|(at_builtin;refine aE (xs:=[0]) bT.out ce.out (by simp;omega) (by simp) rfl rfl rfl rfl rfl ?_;intro zs d2 dh dd b3 o O a9;have bq:=gQq (br.out.trans (aB O bT.out (by simp)));have cr:=gQq o;have c9:=bq.out.size;have d0:zs.length<=2300:=(by rw[b3.out,List.length_append,List.length_singleton];omega);clear O a9 o)|(at_builtin;refine eX cr.out 0 (by omega) c9 rfl rfl rfl rfl rfl rfl ?_;intro cw ct de ca b8;have cn:=gQq ca;have ci:=gQq b8;clear ca b8)|fail)
      go_ret2;have cv:0::(y++[0])=zs++[0]:=(by rw[b3.out];rfl);have cu:(zs++[0]).length=zs.length+1:=(by simp);rw[cv];refine .inl ⟨a2.out,some ⟨cw,0,none⟩,ct,by rw[cu];rfl,(bh.has cn.out).lower cb,ak.out.trans ((bq.out.trans ci.out).mono cb)⟩
  · have L:=gQq (aj.out.trans (hb.mono (by omega)));have b9:=rh (f:=f) (by have:=bO.out;omega) (by rw[D.out];exact K);have E:Hid (I=Z):=(by show _=_;rw[bs.out,b9,D.out]);have b4:((Z:Int) != 0)=true:=(by rw[bne_iff_ne];omega);have co:=gQq K;clear hb b9 S D K;go_wp2;go_ret2;rw[E.out];exact cC co.out L.out
end
end Go.Proofs.YtbahfgdbjgkklaaGreatDoor
