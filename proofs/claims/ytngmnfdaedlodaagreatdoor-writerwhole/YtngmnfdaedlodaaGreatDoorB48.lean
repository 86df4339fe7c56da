import Derived.Lib.BytesEntry
import Derived.Test.YtngmnfdaedlodaaGreatDoorC7
import Derived.Test.YtngmnfdaedlodaaGreatDoorB26
import Derived.Test.YtngmnfdaedlodaaGreatDoorC6
set_option maxRecDepth 100000
set_option maxHeartbeats 4000000
namespace Go.Proofs.YtngmnfdaedlodaaGreatDoor
open Go.Proofs.Tryz
open Go.Value renaming int->I,slice->O,tuple->qv,pointer->qq
open Go.IntKind renaming i64->U
open Option renaming none->Y,some->C
open Except renaming error->N
open Go.Proofs.Tryz renaming prog->AE
open Go.Ending renaming returned->wv
open Go.Obj renaming cells->wx
variable{B e:Nat}{w w1:World}{l:L8}{d0 d1 d10 d2 d3 d4 d5 d6 d7 d8 d9:Value}{u:AV}
section
open Go.RowKit
theorem nA:∀l:L8,Lib.indexByte l 0=if l.findIdx (·==0)<l.length then ((l.findIdx (·==0):Nat):Int) else -1
 | []=>by simp[Lib.indexByte]
 |c::l=>by
  rw[Lib.indexByte,List.findIdx_cons,nA l];by_cases o:(c==0)=true
  ·rw[AG o,o];simp
  ·have A:(c==0)=false:=(by simpa using o);rw[AF o,A];simp only[cond_false,AI];by_cases y:l.findIdx (·==0)<l.length
   ·rw[AG y,AF (by rw[beq_iff_eq];omega),AG (by omega)];omega
   ·rw[AF y,AG (by rfl),AF (by omega)]
theorem bytesOf_map(l:L8):Lib.bytesOf (l.map fun c=>(c.toNat:Int))=l:=by
 unfold Lib.bytesOf;rw[List.map_map]
 conv=>rhs;rw[<-List.map_id l]
 refine List.map_congr_left fun c _=>?_;simp
theorem pc(b y c:Nat)(l:L8)(w:World)(h:cT w b y l):
  Calls AE 49 #[O (C ⟨b,y,Y⟩) l.length c,I .u8 0] w fun e w'=>e=wv (I U (Lib.indexByte l 0))∧w'=w:=by
 have o:=Lib.run_indexByteSlice (P:=AE) w b y l.length c (l.map fun c=>(c.toNat:Int)) (by simp) (fun i A=>by
  rw[h i A]
  simp[List.getD,A]) 0
 rw[bytesOf_map] at o;have D:=gQq o;clear o h;go_enter func49,ntmps49;go_wp2;rw[run_callFunc_extern func71 (by kernel_rfl) (by kernel_rfl) (by kernel_rfl) (e:=Extern.BytealgIndexByte.indexByte) (by kernel_rfl),D.out];simp only[Result.andThen];rw[Oper.upon_value];go_wp2;go_ret;exact⟨rfl,rfl⟩
def Ao(r:Except Nat L8)(g cap:Nat)(e:Ending):Prop:=match r with
 |N k=>e=wv (qv #[O Y 0 0,I U (k:Nat)])
 |.ok r=>e=wv (qv #[O (C ⟨g,1,Y⟩) r.length (cap-1),I U 0])
theorem rZ(g cap:Nat)(c:UInt8)(t:L8)(a3:t.length<=2201)(a2:t.length+1<=cap)(w:World)(h:cT w g 0 (c::t)):
  Calls AE 32 #[O (C ⟨g,0,Y⟩) (t.length+1) cap] w fun e w'=>Ao (Sc.runOf (c::t)) g cap e∧w'=w:=by
 have c0:w.cell? ⟨g,0,Y⟩=C (I .u8 (c.toNat:Int)):=h 0 (Nat.zero_lt_succ _);have V:cT w g 1 t:=fun j S=>by
  have L:=h (j+1) (Nat.succ_lt_succ S);rw[show 1+j=0+(j+1) by omega];exact L
 by_cases Q:c=0
 ·subst Q;have c1:w.cell? ⟨g,0,Y⟩=C (I .u8 0):=c0;clear c0;obtain⟨X,E⟩:∃X:OA,(if cap=1 then C (⟨g,0,Y⟩:Addr) else C ⟨g,1,Y⟩)=X:=⟨_,rfl⟩;have aj:∃J,X=C ⟨g,J,Y⟩∧cT w g J t:=by
   by_cases L:cap=1
   ·rw[AG L] at E;have D:t=[]:=List.eq_nil_of_length_eq_zero (by omega);subst D;exact⟨0,E.symm,fun j S=>by simp at S⟩
   ·rw[AF L] at E;exact⟨1,E.symm,V⟩
  obtain⟨J,rfl,ab⟩:=aj;have A:=gQq (pc g J (cap-1) t w ab);rw[nA] at A;have a4:∀w',(Instr.slice 40 (O (C ⟨g,0,Y⟩) (t.length+1) cap) (C (I U 1)) Y Y).run AE w'=.ok (O (C ⟨g,J,Y⟩) t.length (cap-1)) w':=fun w'=>by
   have:=dC (C ⟨g,0,Y⟩) (t.length+1) cap 1 (by omega) w';rw[show dp (C (⟨g,0,Y⟩:Addr)) 1 cap=C ⟨g,J,Y⟩ from E,Nat.add_sub_cancel] at this;exact this
  have o:Hid (Sc.runOf (0::t)=if t.findIdx (·==0)<t.length then (if t.findIdx (·==0)=0 then N 4 else .ok (t.take (t.findIdx (·==0)))) else if t.length+1=2202 then N 2 else N 142):=by
   show _=_;rw[Sc.runOf_cons,AF (by simp)];rfl
  obtain⟨i,ah⟩:∃i,i=t.findIdx (·==0):=⟨_,rfl⟩;rw[<-ah] at A o;clear h V ab E ah;by_cases K:i<t.length
  ·rw[AG K] at A o;by_cases D:i=0
   ·subst D;rw[AG rfl] at o;clear K;go_enter func32,ntmps32;go_wp2_with fail;refine A.out.mono ?_;rintro e w' ⟨rfl,y⟩;rw[y];clear y w';go_wp2;go_ret2;rw[o.out];exact⟨rfl,rfl⟩
   ·rw[AF D] at o;have a5:∀w',(Instr.slice 40 (O (C ⟨g,0,Y⟩) (t.length+1) cap) (C (I U 1)) (C (I U (1+(i:Int)))) Y).run AE w'=.ok (O (C ⟨g,1,Y⟩) i (cap-1)) w':=fun w'=>by
     have ak:(sizeOf (Tryz.prog.elem 40)).run AE w'=.ok 1 w':=(by kernel_rfl);rw[run_slice_lh w' 40 (C ⟨g,0,Y⟩) (t.length+1) cap (by kernel_rfl) U U 1 (1+(i:Int)) (by omega) (by omega) (by omega),ak];have e:cap≠1:=(by omega);have aw:(1+(i:Int)-1).toNat=i:=(by omega);simp[sliced,Result.andThen,e,Addr.add];omega
    have a1:((i:Int)==0)=false:=(by rw[BQ];omega);have Z:(0:Int)<(i:Int):=(by omega);have hb:(i:Int)<=2201:=(by omega);have ai:Hid ((t.take i).length=i):=(by show _=_;rw[AM];omega);clear D K;go_enter func32,ntmps32;go_wp2_with fail;refine A.out.mono ?_;rintro e w' ⟨rfl,y⟩;rw[y];clear y w';go_wp2;go_ret2;rw[o.out];exact⟨by show _=_;rw[ai.out];rfl,rfl⟩
  ·rw[AF K] at A o;clear K;by_cases M:t.length+1=2202
   ·rw[AG M] at o;have Z:((t.length:Int)+1==2202)=true:=(by rw[beq_iff_eq];omega);clear M;go_enter func32,ntmps32;go_wp2_with fail;refine A.out.mono ?_;rintro e w' ⟨rfl,y⟩;rw[y];clear y w';go_wp2;go_ret2;rw[o.out];exact⟨rfl,rfl⟩
   ·rw[AF M] at o;have Z:((t.length:Int)+1==2202)=false:=(by rw[BQ];omega);clear M;go_enter func32,ntmps32;go_wp2_with fail;refine A.out.mono ?_;rintro e w' ⟨rfl,y⟩;rw[y];clear y w';go_wp2;go_ret2;rw[o.out];exact⟨rfl,rfl⟩
 ·have a0:((c.toNat:Int) != 0)=true:=by
   rw[bne_iff_ne];intro D;exact Q (UInt8.toNat_inj.1 (by simpa using D))
  have o:Hid (Sc.runOf (c::t)=N 141):=by
   show _=_;rw[Sc.runOf_cons,AG Q]
  clear Q h V;go_enter func32,ntmps32;go_wp2;go_ret2;rw[o.out];exact⟨rfl,rfl⟩
end
section
open Go.RowKit
section
variable {w:World} {B g x k:Nat} {v:Value} {s:Dv.St}
theorem oG(h:ax w B g v s x k)(hd:s.down=false)(p:Int)(D:p<0∨(s.b.length:Int)<p):
  Calls AE 31 #[qq (C ⟨g,0,Y⟩),I U p] w fun e w'=>e=wv (qv #[O Y 0 0,I U 7])∧w'=w:=by
 have A:=gQq (kUp h);rw[hd] at A;have E:=gQq (lG h);obtain⟨n,J⟩:∃n,n=s.b.length:=⟨_,rfl⟩;rw[<-J] at E D;clear h hd J;by_cases y:p<0
 ·have K:decide (p<0)=true:=AR y;clear D y;go_enter func31,ntmps31;go_wp2_with fail;refine A.out.mono ?_;rintro e w' ⟨rfl,o⟩;rw[o];clear o w';go_wp2;go_ret2;exact⟨rfl,rfl⟩
 ·have K:decide (p<0)=false:=AP y;have L:(n:Int)<p:=by omega
  clear D y;go_enter func31,ntmps31;go_wp2_with fail;refine A.out.mono ?_;rintro e w' ⟨rfl,o⟩;rw[o];clear o w';go_wp2_with fail;refine E.out.mono ?_;rintro e w' ⟨rfl,o⟩;rw[o];clear o w';go_wp2;go_ret2;exact⟨rfl,rfl⟩
theorem oH(h:ax w B g v s x k)(hd:s.down=false)(E:s.b.length<=2097152):
  Calls AE 31 #[qq (C ⟨g,0,Y⟩),I U (s.b.length:Nat)] w fun e w'=>e=wv (qv #[O Y 0 0,I U 140])∧w'=w:=by
 have A:=gQq (kUp h);rw[hd] at A;have y:=gQq (lG h);obtain⟨n,D⟩:∃n,n=s.b.length:=⟨_,rfl⟩;rw[<-D] at y E ⊢;clear h hd D;have J:decide ((n:Int)<0)=false:=AP (by omega);go_enter func31,ntmps31;go_wp2_with fail;refine A.out.mono ?_;rintro e w' ⟨rfl,o⟩;rw[o];clear o w';go_wp2_with fail;refine y.out.mono ?_;rintro e w' ⟨rfl,o⟩;rw[o];clear o w';go_wp2_with fail;refine y.out.mono ?_;rintro e w' ⟨rfl,o⟩;rw[o];clear o w';go_wp2;go_ret2;exact⟨rfl,rfl⟩
theorem rb(h:ax w B g v s x k)(hd:s.down=false)(S:s.b.length<=2097152)(ab:s.told+s.b.length<=9223372036854775807)(p:Nat)(X:p<s.b.length):
  Calls AE 31 #[qq (C ⟨g,0,Y⟩),I U p] w fun e w'=>∃q cap,e=wv (qv #[O q ((s.b.drop p).take 2202).length cap,I U 0])∧Has w' w.1.size (O q ((s.b.drop p).take 2202).length cap) ((s.b.drop p).take 2202)∧ax w' B g v { s with told:=s.told+((s.b.drop p).take 2202).length } x k∧Aside (fun k=>k=g) w w':=by
 have E:=gQq (kUp h);rw[hd] at E;have A:=gQq (lG h);have y:=xC h (p:Int) 2202 (by omega) (by omega) (by omega) S ab;have Z:Dv.read s (p:Int) 2202=((s.b.drop p).take 2202,0,{ s with told:=s.told+((s.b.drop p).take 2202).length }):=by
  unfold Dv.read;rw[AF (by omega)];simp
 rw[Z] at y;obtain⟨J,Q⟩:∃J,J=(s.b.drop p).take 2202:=⟨_,rfl⟩;rw[<-Q] at y ⊢;have D:=gQq y;obtain⟨n,V⟩:∃n,n=s.b.length:=⟨_,rfl⟩;rw[<-V] at A X S;have ak:decide ((p:Int)<0)=false:=AP (by omega);have aw:decide ((n:Int)<(p:Int))=false:=AP (by omega);have a0:((p:Int)==(n:Int))=false:=by rw[BQ];omega
 have a1:decide (n<p)=false:=AP (by omega);have a2:(p==n)=false:=by rw[BQ];omega
 clear h hd V y Z X ab Q;go_enter func31,ntmps31;go_wp2_with fail;refine E.out.mono ?_;rintro e w' ⟨rfl,o⟩;rw[o];clear o w';go_wp2_with fail;refine A.out.mono ?_;rintro e w' ⟨rfl,o⟩;rw[o];clear o w';go_wp2_with fail;refine A.out.mono ?_;rintro e w' ⟨rfl,o⟩;rw[o];clear o w';go_wp2_with fail;refine D.out.mono ?_;rintro e w' ⟨q,cap,rfl,K,L,M⟩;have ah:=gQq K;have ai:=gQq L;have aj:=gQq M;clear K L M D;go_wp2;go_ret2;exact⟨q,cap,rfl,ah.out,ai.out,aj.out⟩
def AtA(r:Except Nat (Fr×Nat))(w:World)(e:Ending)(w':World):Prop:=match r with
 |N k=>e=wv (qv #[.agg fP,I U 0,I U (k:Nat)])
 |.ok (f,m)=>∃u,e=wv (qv #[.agg u,I U (m:Nat),I U 0])∧eI w' w.1.size u f
theorem l8(hb:w1.1[w.1.size]?=C (wx #[d0,d1,d2,d3,d4,d5,d6,d7,d8,d9,d10] 52 (0,0)))(M:Aside (fun k=>k=g) w w1)(h:ax w1 B g v s x k)(S:g<w.1.size)(c0 c1 c2 c3 c4 y A D E J o:Value):
  (gw w1 w.1.size c0 c1 c2 c3 c4 y A D E J o).1[w.1.size]?=C (wx #[c0,c1,c2,c3,c4,y,A,D,E,J,o] 52 (0,0))∧ax (gw w1 w.1.size c0 c1 c2 c3 c4 y A D E J o) B g v s x k∧Aside (fun k=>k=g) w (gw w1 w.1.size c0 c1 c2 c3 c4 y A D E J o):=by
 have L:=dh w1 w.1.size c0 c1 c2 c3 c4 y A D E J o;refine⟨dR hb _ _ _ _ _ _ _ _ _ _ _,h.aside L (by omega) (fun j Q K=>?_),M.trans L (fun i V K=>by omega)⟩;have:=dY h.has hb (by decide);exact this (by rw[Q,K])
theorem fM(hb:w1.1[w.1.size]?=C (wx #[d0,d1,d2,d3,d4,d5,d6,d7,d8,d9,d10] 52 (0,0)))(L:Aside (fun k=>k=g) w w1)(h:ax w1 B g v s x k)(M:g<w.1.size)(c0 c1 c2 c3 c4 A D E J K y:Value)(o:Obj):
  (gw (w1.alloc o) w.1.size c0 c1 c2 c3 c4 A D E J K y).1[w.1.size]?=C (wx #[c0,c1,c2,c3,c4,A,D,E,J,K,y] 52 (0,0))∧ax (gw (w1.alloc o) w.1.size c0 c1 c2 c3 c4 A D E J K y) B g v s x k∧Aside (fun k=>k=g) w (gw (w1.alloc o) w.1.size c0 c1 c2 c3 c4 A D E J K y):=by
 exact l8 ((ay _ o (ap hb)).trans hb) (L.alloc o) (h.below (gQz.alloc gQx o)) M c0 c1 c2 c3 c4 A D E J K y
theorem pg{q:OA}{n cap:Nat}(D:Has w B (O q n cap) l)(A:l≠[]):∃g,q=C ⟨g,0,Y⟩∧br w B g cap l∧n=l.length:=by
 rcases D.form with ⟨y,o⟩ | ⟨g,E,y,o⟩
 ·exact absurd o A
 ·injection y with h3 h5 h4;subst h4;exact⟨g,h3,o,h5⟩
theorem eI.beside14{F:Nat->Prop}{w':World}{f:Fr}(h:eI w B u f)(D:Aside F w w')(A:∀k,F k->k<B):eI w' B u f:=by
 obtain⟨sp,ak,M,L,S,Q,V,X,E,Z,J,ab⟩:=h.out;refine⟨sp,ak,M,L,S,Q,V,?_,E.aside D (fun k y o=>by have:=(E.lt k y).1;have:=A k o;omega),Z,J.aside D (fun k y o=>by have:=(J.lt k y).1;have:=A k o;omega),ab⟩;obtain⟨v,us,K,e,hb,aj⟩:=X.out;exact⟨v,us,K,e,hb.aside D (fun g ah o=>by have:=(hb.lt g ah).1;have:=A g o;omega) (fun j ai k y o=>by have:=(hb.range j ai k y).1;have:=A k o;omega),aj⟩
theorem eI.low14{B':Nat}{f:Fr}(h:eI w B u f)(o:B'<=B):eI w B' u f:=by
 obtain⟨sp,V,A,y,E,D,J,K,L,M,Q,S⟩:=h.out;exact⟨sp,V,A,y,E,D,J,jl K o,L.low o,M,Q.low o,S⟩
theorem jJ(h:Fr.dec l=N e):e≠0:=by
 unfold Fr.dec at h;split at h
 ·next e' he=>injection h with h;rw[<-h];exact qk he
 ·next b hb=>
  unfold Fr.rdF at h;have A:∀{D:Nat} {l:L8} {e:Nat},Fr.nb D l=N e->e=5:=by
   intro D l e h;unfold Fr.nb at h;split at h
   ·injection h with h;omega
   ·split at h
    ·cases h
    ·injection h with h;omega
  have y:∀(o:List Nat) {l:L8} {e:Nat},Fr.nbs o l=N e->e=5:=by
   intro o;induction o with
   |nil=>intro l e h;rw[Fr.nbs] at h;cases h
   |cons a o ih=>
    intro l e h;rw[Fr.nbs] at h;split at h
    ·next e' he=>injection h with h;rw[<-h];exact A he
    ·split at h
     ·next e' he=>injection h with h;rw[<-h];exact ih he
     ·cases h
  have E:∀(m:Nat) {l:L8} {e:Nat},Fr.rdE m l=N e->e=5:=by
   intro m;induction m with
   |zero=>intro l e h;rw[Fr.rdE] at h;cases h
   |succ m ih=>
    intro l e h;rw[Fr.rdE] at h;split at h
    ·next e' he=>injection h with h;rw[<-h];exact y _ he
    ·split at h
     ·next e' he=>injection h with h;rw[<-h];exact ih he
     ·cases h
  split at h
  ·unfold Fr.rdS at h;split at h
   ·next e' he=>injection h with h;rw[<-h,A he];decide
   ·split at h
    ·next e' he=>injection h with h;rw[<-h];exact Sch.read_ne he
    ·cases h
  ·split at h
   ·unfold Fr.rdD at h;split at h
    ·next e' he=>injection h with h;rw[<-h,y _ he];decide
    ·split at h
     ·injection h with h;omega
     ·cases h
   ·split at h
    ·unfold Fr.rdI at h;split at h
     ·next e' he=>injection h with h;rw[<-h,y _ he];decide
     ·split at h
      ·next e' he=>injection h with h;rw[<-h,E _ he];decide
      ·split at h
       ·cases h
       ·injection h with h;omega
    ·injection h with h;omega
theorem mS(h:Sc.runOf l=N e):e≠0:=by
 unfold Sc.runOf at h;split at h
 ·injection h with h;omega
 ·unfold Sc.runT at h;split at h
  ·split at h
   ·injection h with h;omega
   ·cases h
  ·split at h <;> injection h with h <;> omega
theorem wZ{b:L8}{p:Int}{o:Nat}(h:Sc.at_ b p=N o):o≠0:=by
 unfold Sc.at_ at h;split at h
 ·injection h with h;omega
 ·split at h
  ·injection h with h;omega
  ·split at h
   ·next e' he=>injection h with h;rw[<-h];exact mS he
   ·split at h
    ·next e' he=>injection h with h;rw[<-h];exact jJ he
    ·cases h
end
end
section
open Go.RowKit
section
variable {w:World} {B g x k:Nat} {v:Value} {s:Dv.St}
theorem qw(h:ax w B g v s x k)(p:Int)(y:Nat)(S:y≠0)(L:∀o,Below w.1.size w o->Calls AE 31 #[qq (C ⟨g,0,Y⟩),I U p] o fun e w'=>e=wv (qv #[O Y 0 0,I U (y:Nat)])∧w'=o):
  Calls AE 13 #[qq (C ⟨g,0,Y⟩),I U p] w fun e w'=>e=wv (qv #[.agg fP,I U 0,I U (y:Nat)])∧ax w' B g v s x k∧Aside (fun k=>k=g) w w':=by
 obtain⟨o,A⟩:∃o,o=w.alloc (wx fP 52):=⟨_,rfl⟩;have D:Below w.1.size w o:=by rw[A];exact gQy
 have E:o.1[w.1.size]?=C (wx fP 52 (0,0)):=by rw[A];exact an w _
 have Q:Hid (w.alloc (wx #[I U 0,I U 0,O Y 0 0,I U 0,I U 0,I U 0,O Y 0 0,I U 0,I U 0,I U 0,O Y 0 0] 52)=o):=A.symm;have J:=gQq (l8 (w:=w) E (af D _) (h.below D) h.lt (I U 0) (I U 0) (O Y 0 0) (I U 0) (I U 0) (I U 0) (O Y 0 0) (I U 0) (I U 0) (I U 0) (O Y 0 0));have K:=gQq (L o D);have V:((y:Int) != 0)=true:=by rw[bne_iff_ne];omega
 obtain⟨X,Z,ah,ai,aj,ak,aw,a0,a1,a2,ab⟩:=cg E;obtain⟨a3,a4,a6,a7,a8,a9,bb,bc,be,bi,a5⟩:=jP E;clear A D E h S L;go_enter func13,ntmps13;go_wp2_with fail;rw[Q.out];refine K.out.mono ?_;rintro e w' ⟨rfl,M⟩;rw[M];clear M w' K;go_wp2;refine bodyPost_ret (dz rfl _ _ w.1.size _ _ _ _ rfl J.out.1 underlying52 rfl (by kernel_rfl)) rfl ?_;exact⟨rfl,J.out.2.1,J.out.2.2⟩
end
end
section
open Go.RowKit
section
variable {w:World} {B g x k:Nat} {v:Value} {s:Dv.St}
theorem yv(h:ax w B g v s x k)(hd:s.down=false)(ds:s.b.length<=2097152)(ec:s.told+s.b.length<=9223372036854775807)(el:Hv w)(f0:2<B)(p:Nat)(dv:p<s.b.length)(y:L8)(bk:y=(s.b.drop p).take 2202):
  Calls AE 13 #[qq (C ⟨g,0,Y⟩),I U p] w fun e w'=>AtA (match Sc.runOf y with
   |N e=>N e
   |.ok r=>match Fr.dec r with
    |N e=>N e
    |.ok f=>.ok (f,p+r.length+2)) w e w'∧ax w' B g v { s with told:=s.told+y.length } x k∧Aside (fun k=>k=g) w w':=by
 obtain⟨S,ab⟩:∃S,S=w.alloc (wx fP 52):=⟨_,rfl⟩;have V:Below w.1.size w S:=by rw[ab];exact gQy
 have dj:S.1[w.1.size]?=C (wx fP 52 (0,0)):=by rw[ab];exact an w _
 have f8:S.1.size=w.1.size+1:=by rw[ab];simp
 have ci:=h.lt;have f5:=h.base;have fx:Hid (w.alloc (wx #[I U 0,I U 0,O Y 0 0,I U 0,I U 0,I U 0,O Y 0 0,I U 0,I U 0,I U 0,O Y 0 0] 52)=S):=ab.symm;have b6:=rb (h.below V) hd ds ec p dv;have f6:(p:Int)<=2097152:=by omega
 have f3:y.length<=2202:=by rw[bk,AM];omega
 have Q:y≠[]:=by
  intro b9;rw[bk] at b9;have:=congrArg List.length b9;simp only[AM,AL,List.length_nil] at this;omega
 rw[<-bk] at b6
 obtain⟨R,b7⟩:∃R,R=(match Sc.runOf y with
   |N e=>N e
   |.ok r=>match Fr.dec r with
    |N e=>N e
    |.ok f=>.ok (f,p+r.length+2):Except Nat (Fr×Nat)):=⟨_,rfl⟩
 rw[<-b7];have cr:=gQq b6;have cq:=gQq dj;have co:=gQq V;have cp:=gQq el;have X:=gQq b7;clear ab V dj h hd ds ec el dv b6 bk b7;go_enter func13,ntmps13;go_wp2_with fail;rw[fx.out];refine cr.out.mono ?_;rintro e w1 ⟨q,cap,rfl,bp,ck,bl⟩;obtain⟨E,rfl,du,-⟩:=pg bp Q;have cc:cT w1 E 0 y:=du.free.2.1;obtain⟨gb,f4,cb,-,c9⟩:=bp.at;injection cb with hq1 _ cb;subst hq1;subst cb;obtain⟨c,t,rfl⟩:∃c t,y=c::t:=by
  cases y with
  |nil=>exact absurd rfl Q
  |cons c t=>exact⟨c,t,rfl⟩
 rw[AI] at f3 c9 ck ⊢;have dr:w1.1[w.1.size]?=C (wx fP 52 (0,0)):=(bl.block _ (by omega) (by omega)).trans cq.out;have b8:Aside (fun k=>k=g) w w1:=(af co.out _).trans bl (fun _ _ h=>h);have f9:=bl.size;have b5:=rZ E cap c t (by omega) c9 w1 cc;obtain⟨ak,bq⟩:∃ak,ak=Sc.runOf (c::t):=⟨_,rfl⟩;rw[<-bq] at b5 X;have aw:=gQq b5;have eb:∀r,ak=.ok r->r.length<=t.length∧cT w1 E 1 r:=fun r ah=>by
  rw[bq] at ah;obtain⟨z,aj,-,-⟩:=Sc.runOf_ok (by simp) ah;injection aj with _ aj;refine⟨by rw[aj];simp,fun j f2=>?_⟩;have df:j<t.length:=by rw[aj];simp;omega
  have b4:=cc (j+1) (Nat.succ_lt_succ df);rw[show 1+j=0+(j+1) by omega,b4];have Z:(c::t)[j+1]'(Nat.succ_lt_succ df)=r[j]:=by
   show t[j]=r[j];simp[aj,List.getElem_append_left f2]
  rw[Z]
 have cn:∀er,ak=N er->er≠0:=fun er ah=>by rw[bq] at ah;exact mS ah
 have b2:=gQq eb;have fs:Hid (E<w1.1.size):=(bp.lt E rfl).2;have b0:=gQq ck;have K:=gQq dr;have bN:=gQq b8;have fv:Hid (Hv w1):=cp.out.on (b8.below (B:=B) (by omega) (fun k cj b9=>by omega)) f0;clear bp du cc ck dr b8 bl b5 bq eb cr cp cq co Q;cases ak with
 |error er=>
  have Q:=cn er rfl;have fy:((er:Int) != 0)=true:=by rw[bne_iff_ne];omega
  have L:Hid (R=N er):=X.out;have J:=gQq (l8 (w:=w) K.out bN.out b0.out ci (I U 0) (I U 0) (O Y 0 0) (I U 0) (I U 0) (I U 0) (O Y 0 0) (I U 0) (I U 0) (I U 0) (O Y 0 0));obtain⟨en,ep,x2,ev,ew,ez,eC,eL,e0,e1,eq⟩:=cg K.out;obtain⟨e2,e3,e5,e6,e7,e8,e9,fc,fi,fo,e4⟩:=jP K.out;clear cn Q X b2;go_wp2_with fail;refine aw.out.mono ?_;rintro e w' ⟨M,ai⟩
  replace M:e=wv (qv #[O Y 0 0,I U (er:Nat)]):=M
  subst M;rw[ai];clear ai w' aw;go_wp2;refine bodyPost_ret (dz rfl _ _ w.1.size _ _ _ _ rfl J.out.1 underlying52 rfl (by kernel_rfl)) rfl ?_;rw[L.out];exact⟨rfl,J.out.2.1,J.out.2.2⟩
 |ok r=>
  obtain⟨f7,ea⟩:=b2.out r rfl;have cs:=qE (C ⟨E,1,Y⟩) (cap-1) r (by omega) (by omega) w1 fv.out (.inr ⟨E,1,rfl,fs.out,ea⟩)
  have L:Hid (R=match Fr.dec r with
   |N e=>N e
   |.ok f=>.ok (f,p+r.length+2)):=X.out
  have bO:=gQq cs;clear cn X b2 ea cs;go_wp2_with fail;refine aw.out.mono ?_;rintro e w' ⟨M,ai⟩
  replace M:e=wv (qv #[O (C ⟨E,1,Y⟩) r.length (cap-1),I U 0]):=M
  subst M;rw[ai];clear ai w' aw;go_wp2_with fail;refine bO.out.mono ?_;intro e em Z;obtain⟨b3,bn⟩:∃b3,b3=Fr.dec r:=⟨_,rfl⟩;rw[<-bn] at Z L;cases b3 with
  |error er=>
   obtain⟨rfl,A⟩:=Z;have Q:=jJ bn.symm;have fy:((er:Int) != 0)=true:=(by rw[bne_iff_ne];omega);have b1:Hid (R=N er):=L.out;have D:=(A.block _ (ap K.out)).trans K.out;have J:=gQq (fM (w:=w) D (bN.out.trans (af A (fun k=>k=g)) (fun _ _ h=>h)) (b0.out.below A) ci (I U 0) (I U 0) (O Y 0 0) (I U 0) (I U 0) (I U 0) (O Y 0 0) (I U 0) (I U 0) (I U 0) (O Y 0 0));obtain⟨en,ep,x2,ev,ew,ez,eC,eL,e0,e1,eq⟩:=iN D;obtain⟨e2,e3,e5,e6,e7,e8,e9,fc,fi,fo,e4⟩:=gK D;clear A Q bn L D bO;go_wp2;refine bodyPost_ret (dz rfl _ _ w.1.size _ _ _ _ rfl (J.out _).1 underlying52 rfl (by kernel_rfl)) rfl ?_;rw[b1.out];exact⟨rfl,(J.out _).2.1,(J.out _).2.2⟩
  |ok f=>
   obtain⟨u,rfl,cd,A⟩:=Z;have b1:Hid (R=.ok (f,p+r.length+2)):=L.out;obtain⟨sp,bv,be,bc,bj,bi,eg,-⟩:=cd.out;unfold aF at eg;subst eg;have bX:=gQq cd;obtain⟨a0,V⟩:∃x,x=f.kind:=⟨_,rfl⟩;obtain⟨a1,ct⟩:∃x,x=f.number:=⟨_,rfl⟩;obtain⟨a3,c8⟩:∃x,x=f.cols.length:=⟨_,rfl⟩;obtain⟨a4,cv⟩:∃x,x=f.seq:=⟨_,rfl⟩;obtain⟨a5,cw⟩:∃x,x=f.first:=⟨_,rfl⟩;obtain⟨a6,cx⟩:∃x,x=f.rows:=⟨_,rfl⟩;obtain⟨a7,cy⟩:∃x,x=f.block.length:=⟨_,rfl⟩;obtain⟨a8,c5⟩:∃x,x=f.index.at_:=⟨_,rfl⟩;obtain⟨a9,c6⟩:∃x,x=f.index.frames:=⟨_,rfl⟩;obtain⟨bb,c7⟩:∃x,x=f.index.rows:=⟨_,rfl⟩;obtain⟨a2,cu⟩:∃x,x=f.index.entries.length:=⟨_,rfl⟩;rw[<-V,<-ct,<-c8,<-cv,<-cw,<-cx,<-cy,<-c5,<-c6,<-c7,<-cu] at bX ⊢;have D:=(A.block _ (ap K.out)).trans K.out;have bT:=gQq (fM (w:=w) D (bN.out.trans (af A (fun k=>k=g)) (fun _ _ h=>h)) (b0.out.below A) ci (I U a0) (I U a1) (O sp a3 bv) (I U a4) (I U a5) (I U a6) (O be a7 bc) (I U a8) (I U a9) (I U bb) (O bj a2 bi));have fq:Hid (∀o,eI (gw (em.alloc o) w.1.size (I U a0) (I U a1) (O sp a3 bv) (I U a4) (I U a5) (I U a6) (O be a7 bc) (I U a8) (I U a9) (I U bb) (O bj a2 bi)) w.1.size #[I U a0,I U a1,O sp a3 bv,I U a4,I U a5,I U a6,O be a7 bc,I U a8,I U a9,I U bb,O bj a2 bi] f):=fun o=>by
    have b4:=bX.out.beside14 (af (gQz.alloc gQx o) (fun _=>False)) (fun k cj=>cj.elim);exact(b4.beside14 (dh (em.alloc o) w.1.size (I U a0) (I U a1) (O sp a3 bv) (I U a4) (I U a5) (I U a6) (O be a7 bc) (I U a8) (I U a9) (I U bb) (O bj a2 bi)) (fun k cj=>by omega)).low14 (by omega)
   obtain⟨en,ep,x2,ev,ew,ez,eC,eL,e0,e1,eq⟩:=iN D;obtain⟨e2,e3,e5,e6,e7,e8,e9,fc,fi,fo,e4⟩:=gK D;clear cd A bn L D bO V ct c8 cv cw cx cy c5 c6 c7 cu bX;go_wp2;refine bodyPost_ret (dz rfl _ _ w.1.size _ _ _ _ rfl (bT.out _).1 underlying52 rfl (by kernel_rfl)) rfl ?_;rw[b1.out];exact⟨⟨_,rfl,fq.out _⟩,(bT.out _).2.1,(bT.out _).2.2⟩
theorem kAt(h:ax w B g v s x k)(hd:s.down=false)(D:s.b.length<=2097152)(S:s.told+s.b.length<=9223372036854775807)(V:Hv w)(L:2<B)(p:Int):
  Calls AE 13 #[qq (C ⟨g,0,Y⟩),I U p] w fun e w'=>AtA (Sc.at_ s.b p) w e w'∧ax w' B g v { s with told:=s.told+Sc.reads s.b p } x k∧Aside (fun k=>k=g) w w':=by
 by_cases E:p<0∨(s.b.length:Int)<=p
 ·have A:Sc.reads s.b p=0:=by unfold Sc.reads;rw[AG E]
  have Q:{ s with told:=s.told+Sc.reads s.b p }=s:=by rw[A];rfl
  rw[Q];by_cases y:p<0∨(s.b.length:Int)<p
  ·have o:Sc.at_ s.b p=N 7:=(by unfold Sc.at_;rw[AG y]);rw[o];exact qw h p 7 (by decide) (fun K hb=>oG (h.below hb) hd p y)
  ·have J:p=(s.b.length:Int):=(by omega);have o:Sc.at_ s.b p=N 140:=(by unfold Sc.at_;rw[AF y,AG J]);rw[o];refine qw h p 140 (by decide) (fun K hb=>?_);rw[J];exact oH (h.below hb) hd D
 ·obtain⟨q,rfl⟩:∃q:Nat,p=(q:Int):=⟨p.toNat,by omega⟩;have M:q<s.b.length:=by omega
  have A:Sc.reads s.b (q:Int)=((s.b.drop q).take 2202).length:=by unfold Sc.reads;rw[AF E];rfl
  have o:Sc.at_ s.b (q:Int)=(match Sc.runOf ((s.b.drop q).take 2202) with
   |N e=>N e
   |.ok r=>match Fr.dec r with
    |N e=>N e
    |.ok f=>.ok (f,q+r.length+2)):=by
   unfold Sc.at_;rw[AF (by omega),AF (by omega)];rfl
  rw[o,A];exact yv h hd D S V L q M _ rfl
end
end
end Go.Proofs.YtngmnfdaedlodaaGreatDoor
