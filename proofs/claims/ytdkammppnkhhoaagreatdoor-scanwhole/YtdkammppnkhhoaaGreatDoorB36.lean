import Derived.Test.YtdkammppnkhhoaaGreatDoorA5
import Derived.Lib.BytesEntry
import Derived.Test.YtdkammppnkhhoaaGreatDoorA8
import Derived.Test.YtdkammppnkhhoaaGreatDoorB31
set_option maxRecDepth 100000
set_option maxHeartbeats 4000000
namespace Go.Proofs.YtdkammppnkhhoaaGreatDoor
variable{B e:Nat}{w w1:World}{l:L8}{d0 d1 d10 d2 d3 d4 d5 d6 d7 d8 d9:Value}{u:AV}{f:Fr}
section
open Go.RowKit
theorem my:∀l:L8,Lib.indexByte l 0=if l.findIdx (·==0)<l.length then ((l.findIdx (·==0):Nat):Int) else -1
 | []=>by simp[Lib.indexByte]
 |c::l=>by
  rw[Lib.indexByte,List.findIdx_cons,my l];by_cases o:(c==0)=true
  ·rw[if_pos o,o];simp
  ·have z:(c==0)=false:=(by simpa using o);rw[if_neg o,z];simp only[cond_false,List.length_cons];by_cases y:l.findIdx (·==0)<l.length
   ·rw[if_pos y,if_neg (by rw[beq_iff_eq];omega),if_pos (by omega)];omega
   ·rw[if_neg y,if_pos (by rfl),if_neg (by omega)]
theorem bytesOf_map(l:L8):Lib.bytesOf (l.map fun c=>(c.toNat:Int))=l:=by
 unfold Lib.bytesOf;rw[List.map_map]
 conv=>rhs;rw[<-List.map_id l]
 refine List.map_congr_left fun c _=>?_;simp
theorem nY(b y c:Nat)(l:L8)(w:World)(h:bR w b y l):
  Calls Tryz.prog 77 #[.slice (some ⟨b,y,none⟩) l.length c,.int .u8 0] w fun e w'=>e=.returned (.int .i64 (Lib.indexByte l 0))∧w'=w:=by
 have o:=Lib.run_indexByteSlice (P:=Tryz.prog) w b y l.length c (l.map fun c=>(c.toNat:Int)) (by simp) (fun i z=>by
  rw[h i z]
  simp[List.getD,z]) 0
 rw[bytesOf_map] at o;have A:=xX o;clear o h;go_enter Tryz.func77,Tryz.ntmps77;go_wp2;rw[run_callFunc_extern Tryz.func105 (by kernel_rfl) (by kernel_rfl) (by kernel_rfl) (e:=Extern.BytealgIndexByte.indexByte) (by kernel_rfl),A.out];simp only[Result.andThen];rw[Oper.upon_value];go_wp2;go_ret;exact⟨rfl,rfl⟩
def xR(r:Except Nat L8)(g cap:Nat)(e:Ending):Prop:=match r with
 |.error k=>e=.returned (.tuple #[.slice none 0 0,.int .i64 (k:Nat)])
 |.ok r=>e=.returned (.tuple #[.slice (some ⟨g,1,none⟩) r.length (cap-1),.int .i64 0])
theorem qw(g cap:Nat)(c:UInt8)(t:L8)(a1:t.length<=2201)(a0:t.length+1<=cap)(w:World)(h:bR w g 0 (c::t)):
  Calls Tryz.prog 54 #[.slice (some ⟨g,0,none⟩) (t.length+1) cap] w fun e w'=>xR (Sc.runOf (c::t)) g cap e∧w'=w:=by
 have c0:w.cell? ⟨g,0,none⟩=some (.int .u8 (c.toNat:Int)):=h 0 (Nat.zero_lt_succ _);have O:bR w g 1 t:=fun j M=>by
  have J:=h (j+1) (Nat.succ_lt_succ M);rw[show 1+j=0+(j+1) by omega];exact J
 by_cases L:c=0
 ·subst L;have c1:w.cell? ⟨g,0,none⟩=some (.int .u8 0):=c0;clear c0;obtain⟨R,D⟩:∃R:OA,(if cap=1 then some (⟨g,0,none⟩:Addr) else some ⟨g,1,none⟩)=R:=⟨_,rfl⟩;have Y:∃E,R=some ⟨g,E,none⟩∧bR w g E t:=by
   by_cases J:cap=1
   ·rw[if_pos J] at D;have A:t=[]:=List.eq_nil_of_length_eq_zero (by omega);subst A;exact⟨0,D.symm,fun j M=>by simp at M⟩
   ·rw[if_neg J] at D;exact⟨1,D.symm,O⟩
  obtain⟨E,rfl,V⟩:=Y;have z:=xX (nY g E (cap-1) t w V);rw[my] at z;have a2:∀w',(Instr.slice 22 (.slice (some ⟨g,0,none⟩) (t.length+1) cap) (some (.int .i64 1)) none none).run Tryz.prog w'=.ok (.slice (some ⟨g,E,none⟩) t.length (cap-1)) w':=fun w'=>by
   have:=dj (some ⟨g,0,none⟩) (t.length+1) cap 1 (by omega) w';rw[show dI (some (⟨g,0,none⟩:Addr)) 1 cap=some ⟨g,E,none⟩ from D,Nat.add_sub_cancel] at this;exact this
  have o:Hid (Sc.runOf (0::t)=if t.findIdx (·==0)<t.length then (if t.findIdx (·==0)=0 then .error 4 else .ok (t.take (t.findIdx (·==0)))) else if t.length+1=2202 then .error 2 else .error 142):=by
   show _=_;rw[Sc.runOf_cons,if_neg (by simp)];rfl
  obtain⟨i,W⟩:∃i,i=t.findIdx (·==0):=⟨_,rfl⟩;rw[<-W] at z o;clear h O V D W;by_cases I:i<t.length
  ·rw[if_pos I] at z o;by_cases A:i=0
   ·subst A;rw[if_pos rfl] at o;clear I;go_enter Tryz.func54,Tryz.ntmps54;go_wp2_with fail;refine z.out.mono ?_;rintro e w' ⟨rfl,y⟩;rw[y];clear y w';go_wp2;go_ret2;rw[o.out];exact⟨rfl,rfl⟩
   ·rw[if_neg A] at o;have a3:∀w',(Instr.slice 22 (.slice (some ⟨g,0,none⟩) (t.length+1) cap) (some (.int .i64 1)) (some (.int .i64 (1+(i:Int)))) none).run Tryz.prog w'=.ok (.slice (some ⟨g,1,none⟩) i (cap-1)) w':=fun w'=>by
     have Z:(sizeOf (Tryz.prog.elem 22)).run Tryz.prog w'=.ok 1 w':=(by kernel_rfl);rw[run_slice_lh w' 22 (some ⟨g,0,none⟩) (t.length+1) cap (by kernel_rfl) .i64 .i64 1 (1+(i:Int)) (by omega) (by omega) (by omega),Z];have e:cap≠1:=(by omega);have ah:(1+(i:Int)-1).toNat=i:=(by omega);simp[sliced,Result.andThen,e,Addr.add];omega
    have ak:((i:Int)==0)=false:=(by rw[beq_eq_false_iff_ne];omega);have U:(0:Int)<(i:Int):=(by omega);have hb:(i:Int)<=2201:=(by omega);have X:Hid ((t.take i).length=i):=(by show _=_;rw[List.length_take];omega);clear A I;go_enter Tryz.func54,Tryz.ntmps54;go_wp2_with fail;refine z.out.mono ?_;rintro e w' ⟨rfl,y⟩;rw[y];clear y w';go_wp2;go_ret2;rw[o.out];exact⟨by show _=_;rw[X.out];rfl,rfl⟩
  ·rw[if_neg I] at z o;clear I;by_cases K:t.length+1=2202
   ·rw[if_pos K] at o;have U:((t.length:Int)+1==2202)=true:=(by rw[beq_iff_eq];omega);clear K;go_enter Tryz.func54,Tryz.ntmps54;go_wp2_with fail;refine z.out.mono ?_;rintro e w' ⟨rfl,y⟩;rw[y];clear y w';go_wp2;go_ret2;rw[o.out];exact⟨rfl,rfl⟩
   ·rw[if_neg K] at o;have U:((t.length:Int)+1==2202)=false:=(by rw[beq_eq_false_iff_ne];omega);clear K;go_enter Tryz.func54,Tryz.ntmps54;go_wp2_with fail;refine z.out.mono ?_;rintro e w' ⟨rfl,y⟩;rw[y];clear y w';go_wp2;go_ret2;rw[o.out];exact⟨rfl,rfl⟩
 ·have aj:((c.toNat:Int) != 0)=true:=by
   rw[bne_iff_ne];intro A;exact L (UInt8.toNat_inj.1 (by simpa using A))
  have o:Hid (Sc.runOf (c::t)=.error 141):=by
   show _=_;rw[Sc.runOf_cons,if_pos L]
  clear L h O;go_enter Tryz.func54,Tryz.ntmps54;go_wp2;go_ret2;rw[o.out];exact⟨rfl,rfl⟩
end
section
open Go.RowKit
section
variable {w:World} {B g x k:Nat} {v:Value} {s:Dv.St}
theorem nK(h:aH w B g v s x k)(hd:s.down=false)(p:Int)(A:p<0∨(s.b.length:Int)<p):
  Calls Tryz.prog 53 #[.pointer (some ⟨g,0,none⟩),.int .i64 p] w fun e w'=>e=.returned (.tuple #[.slice none 0 0,.int .i64 7])∧w'=w:=by
 have z:=xX (kUp h);rw[hd] at z;have D:=xX (wl h);obtain⟨n,E⟩:∃n,n=s.b.length:=⟨_,rfl⟩;rw[<-E] at D A;clear h hd E;by_cases y:p<0
 ·have I:decide (p<0)=true:=decide_eq_true y;clear A y;go_enter Tryz.func53,Tryz.ntmps53;go_wp2_with fail;refine z.out.mono ?_;rintro e w' ⟨rfl,o⟩;rw[o];clear o w';go_wp2;go_ret2;exact⟨rfl,rfl⟩
 ·have I:decide (p<0)=false:=decide_eq_false y;have J:(n:Int)<p:=by omega
  clear A y;go_enter Tryz.func53,Tryz.ntmps53;go_wp2_with fail;refine z.out.mono ?_;rintro e w' ⟨rfl,o⟩;rw[o];clear o w';go_wp2_with fail;refine D.out.mono ?_;rintro e w' ⟨rfl,o⟩;rw[o];clear o w';go_wp2;go_ret2;exact⟨rfl,rfl⟩
theorem nL(h:aH w B g v s x k)(hd:s.down=false)(D:s.b.length<=2097152):
  Calls Tryz.prog 53 #[.pointer (some ⟨g,0,none⟩),.int .i64 (s.b.length:Nat)] w fun e w'=>e=.returned (.tuple #[.slice none 0 0,.int .i64 140])∧w'=w:=by
 have z:=xX (kUp h);rw[hd] at z;have y:=xX (wl h);obtain⟨n,A⟩:∃n,n=s.b.length:=⟨_,rfl⟩;rw[<-A] at y D ⊢;clear h hd A;have E:decide ((n:Int)<0)=false:=decide_eq_false (by omega);go_enter Tryz.func53,Tryz.ntmps53;go_wp2_with fail;refine z.out.mono ?_;rintro e w' ⟨rfl,o⟩;rw[o];clear o w';go_wp2_with fail;refine y.out.mono ?_;rintro e w' ⟨rfl,o⟩;rw[o];clear o w';go_wp2_with fail;refine y.out.mono ?_;rintro e w' ⟨rfl,o⟩;rw[o];clear o w';go_wp2;go_ret2;exact⟨rfl,rfl⟩
theorem pR(h:aH w B g v s x k)(hd:s.down=false)(M:s.b.length<=2097152)(V:s.told+s.b.length<=9223372036854775807)(p:Nat)(R:p<s.b.length):
  Calls Tryz.prog 53 #[.pointer (some ⟨g,0,none⟩),.int .i64 p] w fun e w'=>∃q cap,e=.returned (.tuple #[.slice q ((s.b.drop p).take 2202).length cap,.int .i64 0])∧Has w' w.1.size (.slice q ((s.b.drop p).take 2202).length cap) ((s.b.drop p).take 2202)∧aH w' B g v { s with told:=s.told+((s.b.drop p).take 2202).length } x k∧Aside (fun k=>k=g) w w':=by
 have D:=xX (kUp h);rw[hd] at D;have z:=xX (wl h);have y:=xv h (p:Int) 2202 (by omega) (by omega) (by omega) M V;have U:Dv.read s (p:Int) 2202=((s.b.drop p).take 2202,0,{ s with told:=s.told+((s.b.drop p).take 2202).length }):=by
  unfold Dv.read;rw[if_neg (by omega)];simp
 rw[U] at y;obtain⟨E,L⟩:∃E,E=(s.b.drop p).take 2202:=⟨_,rfl⟩;rw[<-L] at y ⊢;have A:=xX y;obtain⟨n,O⟩:∃n,n=s.b.length:=⟨_,rfl⟩;rw[<-O] at z R M;have Z:decide ((p:Int)<0)=false:=decide_eq_false (by omega);have ah:decide ((n:Int)<(p:Int))=false:=decide_eq_false (by omega);have aj:((p:Int)==(n:Int))=false:=by rw[beq_eq_false_iff_ne];omega
 have ak:decide (n<p)=false:=decide_eq_false (by omega);have a0:(p==n)=false:=by rw[beq_eq_false_iff_ne];omega
 clear h hd O y U R V L;go_enter Tryz.func53,Tryz.ntmps53;go_wp2_with fail;refine D.out.mono ?_;rintro e w' ⟨rfl,o⟩;rw[o];clear o w';go_wp2_with fail;refine z.out.mono ?_;rintro e w' ⟨rfl,o⟩;rw[o];clear o w';go_wp2_with fail;refine z.out.mono ?_;rintro e w' ⟨rfl,o⟩;rw[o];clear o w';go_wp2_with fail;refine A.out.mono ?_;rintro e w' ⟨q,cap,rfl,I,J,K⟩;have W:=xX I;have X:=xX J;have Y:=xX K;clear I J K A;go_wp2;go_ret2;exact⟨q,cap,rfl,W.out,X.out,Y.out⟩
def AtA(r:Except Nat (Fr×Nat))(w:World)(e:Ending)(w':World):Prop:=match r with
 |.error k=>e=.returned (.tuple #[.agg cJ,.int .i64 0,.int .i64 (k:Nat)])
 |.ok (f,m)=>∃u,e=.returned (.tuple #[.agg u,.int .i64 (m:Nat),.int .i64 0])∧cT w' w.1.size u f
theorem li(hb:w1.1[w.1.size]?=some (.cells #[d0,d1,d2,d3,d4,d5,d6,d7,d8,d9,d10] 47 (0,0)))(K:Aside (fun k=>k=g) w w1)(h:aH w1 B g v s x k)(M:g<w.1.size)(c0 c1 c2 c3 c4 y z A D E o:Value):
  (cA w1 w.1.size c0 c1 c2 c3 c4 y z A D E o).1[w.1.size]?=some (.cells #[c0,c1,c2,c3,c4,y,z,A,D,E,o] 47 (0,0))∧aH (cA w1 w.1.size c0 c1 c2 c3 c4 y z A D E o) B g v s x k∧Aside (fun k=>k=g) w (cA w1 w.1.size c0 c1 c2 c3 c4 y z A D E o):=by
 have J:=ay w1 w.1.size c0 c1 c2 c3 c4 y z A D E o;refine⟨aA hb _ _ _ _ _ _ _ _ _ _ _,h.aside J (by omega) (fun j L I=>?_),K.trans J (fun i O I=>by omega)⟩;have:=dk h.has hb (by decide);exact this (by rw[L,I])
theorem fj(hb:w1.1[w.1.size]?=some (.cells #[d0,d1,d2,d3,d4,d5,d6,d7,d8,d9,d10] 47 (0,0)))(J:Aside (fun k=>k=g) w w1)(h:aH w1 B g v s x k)(K:g<w.1.size)(c0 c1 c2 c3 c4 z A D E I y:Value)(o:Obj):
  (cA (w1.alloc o) w.1.size c0 c1 c2 c3 c4 z A D E I y).1[w.1.size]?=some (.cells #[c0,c1,c2,c3,c4,z,A,D,E,I,y] 47 (0,0))∧aH (cA (w1.alloc o) w.1.size c0 c1 c2 c3 c4 z A D E I y) B g v s x k∧Aside (fun k=>k=g) w (cA (w1.alloc o) w.1.size c0 c1 c2 c3 c4 z A D E I y):=by
 exact li ((aG _ o (az hb)).trans hb) (J.alloc o) (h.below (xY.alloc xZ o)) K c0 c1 c2 c3 c4 z A D E I y
theorem fw{q:OA}{n cap:Nat}(A:Has w B (.slice q n cap) l)(z:l≠[]):∃g,q=some ⟨g,0,none⟩∧bA w B g cap l∧n=l.length:=by
 rcases A.form with ⟨y,o⟩ | ⟨g,D,y,o⟩
 ·exact absurd o z
 ·injection y with h3 h5 h4;subst h4;exact⟨g,h3,o,h5⟩
theorem cT.beside14{F:Nat->Prop}{w':World}(h:cT w B u f)(A:Aside F w w')(z:∀k,F k->k<B):cT w' B u f:=by
 obtain⟨sp,Z,K,J,M,L,O,R,D,U,E,V⟩:=h.out;refine⟨sp,Z,K,J,M,L,O,?_,D.aside A (fun k y o=>by have:=(D.lt k y).1;have:=z k o;omega),U,E.aside A (fun k y o=>by have:=(E.lt k y).1;have:=z k o;omega),V⟩;obtain⟨v,us,I,e,hb,Y⟩:=R.out;exact⟨v,us,I,e,hb.aside A (fun g W o=>by have:=(hb.lt g W).1;have:=z g o;omega) (fun j X k y o=>by have:=(hb.range j X k y).1;have:=z k o;omega),Y⟩
theorem cT.low14{B':Nat}(h:cT w B u f)(o:B'<=B):cT w B' u f:=by
 obtain⟨sp,O,z,y,D,A,E,I,J,K,L,M⟩:=h.out;exact⟨sp,O,z,y,D,A,E,fF I o,J.low o,K,L.low o,M⟩
theorem jk(h:Fr.dec l=.error e):e≠0:=by
 unfold Fr.dec at h;split at h
 ·next e' he=>injection h with h;rw[<-h];exact oR he
 ·next b hb=>
  unfold Fr.rdF at h;have z:∀{A:Nat} {l:L8} {e:Nat},Fr.nb A l=.error e->e=5:=by
   intro A l e h;unfold Fr.nb at h;split at h
   ·injection h with h;omega
   ·split at h
    ·cases h
    ·injection h with h;omega
  have y:∀(o:List Nat) {l:L8} {e:Nat},Fr.nbs o l=.error e->e=5:=by
   intro o;induction o with
   |nil=>intro l e h;rw[Fr.nbs] at h;cases h
   |cons a o ih=>
    intro l e h;rw[Fr.nbs] at h;split at h
    ·next e' he=>injection h with h;rw[<-h];exact z he
    ·split at h
     ·next e' he=>injection h with h;rw[<-h];exact ih he
     ·cases h
  have D:∀(m:Nat) {l:L8} {e:Nat},Fr.rdE m l=.error e->e=5:=by
   intro m;induction m with
   |zero=>intro l e h;rw[Fr.rdE] at h;cases h
   |succ m ih=>
    intro l e h;rw[Fr.rdE] at h;split at h
    ·next e' he=>injection h with h;rw[<-h];exact y _ he
    ·split at h
     ·next e' he=>injection h with h;rw[<-h];exact ih he
     ·cases h
  split at h
  ·unfold Fr.rdS at h;split at h
   ·next e' he=>injection h with h;rw[<-h,z he];decide
   ·split at h
    ·next e' he=>injection h with h;rw[<-h];exact Sch.read_ne he
    ·cases h
  ·split at h
   ·unfold Fr.rdD at h;split at h
    ·next e' he=>injection h with h;rw[<-h,y _ he];decide
    ·split at h
     ·injection h with h;omega
     ·cases h
   ·split at h
    ·unfold Fr.rdI at h;split at h
     ·next e' he=>injection h with h;rw[<-h,y _ he];decide
     ·split at h
      ·next e' he=>injection h with h;rw[<-h,D _ he];decide
      ·split at h
       ·cases h
       ·injection h with h;omega
    ·injection h with h;omega
theorem lQ(h:Sc.runOf l=.error e):e≠0:=by
 unfold Sc.runOf at h;split at h
 ·injection h with h;omega
 ·unfold Sc.runT at h;split at h
  ·split at h
   ·injection h with h;omega
   ·cases h
  ·split at h <;> injection h with h <;> omega
theorem pj{b:L8}{p:Int}{o:Nat}(h:Sc.at_ b p=.error o):o≠0:=by
 unfold Sc.at_ at h;split at h
 ·injection h with h;omega
 ·split at h
  ·injection h with h;omega
  ·split at h
   ·next e' he=>injection h with h;rw[<-h];exact lQ he
   ·split at h
    ·next e' he=>injection h with h;rw[<-h];exact jk he
    ·cases h
end
end
section
open Go.RowKit
section
variable {w:World} {B g x k:Nat} {v:Value} {s:Dv.St}
theorem o9(h:aH w B g v s x k)(p:Int)(y:Nat)(M:y≠0)(J:∀o,Below w.1.size w o->Calls Tryz.prog 53 #[.pointer (some ⟨g,0,none⟩),.int .i64 p] o fun e w'=>e=.returned (.tuple #[.slice none 0 0,.int .i64 (y:Nat)])∧w'=o):
  Calls Tryz.prog 19 #[.pointer (some ⟨g,0,none⟩),.int .i64 p] w fun e w'=>e=.returned (.tuple #[.agg cJ,.int .i64 0,.int .i64 (y:Nat)])∧aH w' B g v s x k∧Aside (fun k=>k=g) w w':=by
 obtain⟨o,z⟩:∃o,o=w.alloc (.cells cJ 47):=⟨_,rfl⟩;have A:Below w.1.size w o:=by rw[z];exact xV
 have D:o.1[w.1.size]?=some (.cells cJ 47 (0,0)):=by rw[z];exact ag w _
 have L:Hid (w.alloc (.cells #[.int .i64 0,.int .i64 0,.slice none 0 0,.int .i64 0,.int .i64 0,.int .i64 0,.slice none 0 0,.int .i64 0,.int .i64 0,.int .i64 0,.slice none 0 0] 47)=o):=z.symm;have E:=xX (li (w:=w) D (ae A _) (h.below A) h.lt (.int .i64 0) (.int .i64 0) (.slice none 0 0) (.int .i64 0) (.int .i64 0) (.int .i64 0) (.slice none 0 0) (.int .i64 0) (.int .i64 0) (.int .i64 0) (.slice none 0 0));have I:=xX (J o A);have O:((y:Int) != 0)=true:=by rw[bne_iff_ne];omega
 obtain⟨R,U,W,X,Y,Z,ah,aj,ak,a0,V⟩:=aO D;obtain⟨a1,a2,a4,a5,a6,a7,a8,a9,bb,bc,a3⟩:=ef D;clear z A D h M J;go_enter Tryz.func19,Tryz.ntmps19;go_wp2_with fail;rw[L.out];refine I.out.mono ?_;rintro e w' ⟨rfl,K⟩;rw[K];clear K w' I;go_wp2;refine bodyPost_ret (af rfl _ _ w.1.size _ _ _ _ rfl E.out.1 Tryz.underlying47 rfl (by kernel_rfl)) rfl ?_;exact⟨rfl,E.out.2.1,E.out.2.2⟩
end
end
section
open Go.RowKit
section
variable {w:World} {B g x k:Nat} {v:Value} {s:Dv.St}
theorem wu(h:aH w B g v s x k)(hd:s.down=false)(ea:s.b.length<=2097152)(en:s.told+s.b.length<=9223372036854775807)(eq:Hv w)(f4:2<B)(p:Nat)(ec:p<s.b.length)(y:L8)(bj:y=(s.b.drop p).take 2202):
  Calls Tryz.prog 19 #[.pointer (some ⟨g,0,none⟩),.int .i64 p] w fun e w'=>AtA (match Sc.runOf y with
   |.error e=>.error e
   |.ok r=>match Fr.dec r with
    |.error e=>.error e
    |.ok f=>.ok (f,p+r.length+2)) w e w'∧aH w' B g v { s with told:=s.told+y.length } x k∧Aside (fun k=>k=g) w w':=by
 obtain⟨O,W⟩:∃O,O=w.alloc (.cells cJ 47):=⟨_,rfl⟩;have R:Below w.1.size w O:=by rw[W];exact xV
 have ds:O.1[w.1.size]?=some (.cells cJ 47 (0,0)):=by rw[W];exact ag w _
 have gd:O.1.size=w.1.size+1:=by rw[W];simp
 have cj:=h.lt;have f8:=h.base;have f2:Hid (w.alloc (.cells #[.int .i64 0,.int .i64 0,.slice none 0 0,.int .i64 0,.int .i64 0,.int .i64 0,.slice none 0 0,.int .i64 0,.int .i64 0,.int .i64 0,.slice none 0 0] 47)=O):=W.symm;have b6:=pR (h.below R) hd ea en p ec;have f9:(p:Int)<=2097152:=by omega
 have f6:y.length<=2202:=by rw[bj,List.length_take];omega
 have L:y≠[]:=by
  intro b9;rw[bj] at b9;have:=congrArg List.length b9;simp only[List.length_take,List.length_drop,List.length_nil] at this;omega
 rw[<-bj] at b6
 obtain⟨M,b7⟩:∃M,M=(match Sc.runOf y with
   |.error e=>.error e
   |.ok r=>match Fr.dec r with
    |.error e=>.error e
    |.ok f=>.ok (f,p+r.length+2):Except Nat (Fr×Nat)):=⟨_,rfl⟩
 rw[<-b7];have ct:=xX b6;have cs:=xX ds;have cp:=xX R;have cq:=xX eq;have U:=xX b7;clear W R ds h hd ea en eq ec b6 bj b7;go_enter Tryz.func19,Tryz.ntmps19;go_wp2_with fail;rw[f2.out];refine ct.out.mono ?_;rintro e w1 ⟨q,cap,rfl,bn,cn,bk⟩;obtain⟨D,rfl,eb,-⟩:=fw bn L;have cc:bR w1 D 0 y:=eb.free.2.1;obtain⟨gh,f7,cb,-,dp⟩:=bn.at;injection cb with hq1 _ cb;subst hq1;subst cb;obtain⟨c,t,rfl⟩:∃c t,y=c::t:=by
  cases y with
  |nil=>exact absurd rfl L
  |cons c t=>exact⟨c,t,rfl⟩
 rw[List.length_cons] at f6 dp cn ⊢;have dv:w1.1[w.1.size]?=some (.cells cJ 47 (0,0)):=(bk.block _ (by omega) (by omega)).trans cs.out;have b8:Aside (fun k=>k=g) w w1:=(ae cp.out _).trans bk (fun _ _ h=>h);have gf:=bk.size;have b5:=qw D cap c t (by omega) dp w1 cc;obtain⟨ah,bp⟩:∃ah,ah=Sc.runOf (c::t):=⟨_,rfl⟩;rw[<-bp] at b5 U;have aj:=xX b5;have em:∀r,ah=.ok r->r.length<=t.length∧bR w1 D 1 r:=fun r X=>by
  rw[bp] at X;obtain⟨z,Z,-,-⟩:=Sc.runOf_ok (by simp) X;injection Z with _ Z;refine⟨by rw[Z];simp,fun j f5=>?_⟩;have dr:j<t.length:=by rw[Z];simp;omega
  have b4:=cc (j+1) (Nat.succ_lt_succ dr);rw[show 1+j=0+(j+1) by omega,b4];have V:(c::t)[j+1]'(Nat.succ_lt_succ dr)=r[j]:=by
   show t[j]=r[j];simp[Z,List.getElem_append_left f5]
  rw[V]
 have co:∀er,ah=.error er->er≠0:=fun er X=>by rw[bp] at X;exact lQ X
 have b2:=xX em;have fy:Hid (D<w1.1.size):=(bn.lt D rfl).2;have b0:=xX cn;have I:=xX dv;have bN:=xX b8;have f0:Hid (Hv w1):=cq.out.on (b8.below (B:=B) (by omega) (fun k ck b9=>by omega)) f4;clear bn eb cc cn dv b8 bk b5 bp em ct cq cs cp L;cases ah with
 |error er=>
  have L:=co er rfl;have f3:((er:Int) != 0)=true:=by rw[bne_iff_ne];omega
  have J:Hid (M=.error er):=U.out;have E:=xX (li (w:=w) I.out bN.out b0.out cj (.int .i64 0) (.int .i64 0) (.slice none 0 0) (.int .i64 0) (.int .i64 0) (.int .i64 0) (.slice none 0 0) (.int .i64 0) (.int .i64 0) (.int .i64 0) (.slice none 0 0));obtain⟨eu,ew,eC,eL,eS,eU,e0,e1,e2,e3,ez⟩:=aO I.out;obtain⟨e4,e5,e7,e8,e9,fi,fo,fr,fs,fv,e6⟩:=ef I.out;clear co L U b2;go_wp2_with fail;refine aj.out.mono ?_;rintro e w' ⟨K,Y⟩
  replace K:e=.returned (.tuple #[.slice none 0 0,.int .i64 (er:Nat)]):=K
  subst K;rw[Y];clear Y w' aj;go_wp2;refine bodyPost_ret (af rfl _ _ w.1.size _ _ _ _ rfl E.out.1 Tryz.underlying47 rfl (by kernel_rfl)) rfl ?_;rw[J.out];exact⟨rfl,E.out.2.1,E.out.2.2⟩
 |ok r=>
  obtain⟨gb,el⟩:=b2.out r rfl;have cv:=uM (some ⟨D,1,none⟩) (cap-1) r (by omega) (by omega) w1 f0.out (.inr ⟨D,1,rfl,fy.out,el⟩)
  have J:Hid (M=match Fr.dec r with
   |.error e=>.error e
   |.ok f=>.ok (f,p+r.length+2)):=U.out
  have bO:=xX cv;clear co U b2 el cv;go_wp2_with fail;refine aj.out.mono ?_;rintro e w' ⟨K,Y⟩
  replace K:e=.returned (.tuple #[.slice (some ⟨D,1,none⟩) r.length (cap-1),.int .i64 0]):=K
  subst K;rw[Y];clear Y w' aj;go_wp2_with fail;refine bO.out.mono ?_;intro e w2 V;obtain⟨b3,bl⟩:∃b3,b3=Fr.dec r:=⟨_,rfl⟩;rw[<-bl] at V J;cases b3 with
  |error er=>
   obtain⟨rfl,hb2⟩:=V;have L:=jk bl.symm;have f3:((er:Int) != 0)=true:=(by rw[bne_iff_ne];omega);have b1:Hid (M=.error er):=J.out;have A:=(hb2.block _ (az I.out)).trans I.out;have E:=xX (fj (w:=w) A (bN.out.trans (ae hb2 (fun k=>k=g)) (fun _ _ h=>h)) (b0.out.below hb2) cj (.int .i64 0) (.int .i64 0) (.slice none 0 0) (.int .i64 0) (.int .i64 0) (.int .i64 0) (.slice none 0 0) (.int .i64 0) (.int .i64 0) (.int .i64 0) (.slice none 0 0));obtain⟨eu,ew,eC,eL,eS,eU,e0,e1,e2,e3,ez⟩:=dD A;obtain⟨e4,e5,e7,e8,e9,fi,fo,fr,fs,fv,e6⟩:=dh A;clear hb2 L bl J A bO;go_wp2;refine bodyPost_ret (af rfl _ _ w.1.size _ _ _ _ rfl (E.out _).1 Tryz.underlying47 rfl (by kernel_rfl)) rfl ?_;rw[b1.out];exact⟨rfl,(E.out _).2.1,(E.out _).2.2⟩
  |ok f=>
   obtain⟨u,rfl,ci,hb2⟩:=V;have b1:Hid (M=.ok (f,p+r.length+2)):=J.out;obtain⟨sp,bs,bc,bb,be,bd,ep,-⟩:=ci.out;unfold aB at ep;subst ep;have bX:=xX ci;obtain⟨ak,R⟩:∃x,x=f.kind:=⟨_,rfl⟩;obtain⟨a0,cw⟩:∃x,x=f.number:=⟨_,rfl⟩;obtain⟨a2,df⟩:∃x,x=f.cols.length:=⟨_,rfl⟩;obtain⟨a3,cy⟩:∃x,x=f.seq:=⟨_,rfl⟩;obtain⟨a4,c5⟩:∃x,x=f.first:=⟨_,rfl⟩;obtain⟨a5,c6⟩:∃x,x=f.rows:=⟨_,rfl⟩;obtain⟨a6,c7⟩:∃x,x=f.block.length:=⟨_,rfl⟩;obtain⟨a7,c8⟩:∃x,x=f.index.at_:=⟨_,rfl⟩;obtain⟨a8,c9⟩:∃x,x=f.index.frames:=⟨_,rfl⟩;obtain⟨a9,dd⟩:∃x,x=f.index.rows:=⟨_,rfl⟩;obtain⟨a1,cx⟩:∃x,x=f.index.entries.length:=⟨_,rfl⟩;rw[<-R,<-cw,<-df,<-cy,<-c5,<-c6,<-c7,<-c8,<-c9,<-dd,<-cx] at bX ⊢;have A:=(hb2.block _ (az I.out)).trans I.out;have bT:=xX (fj (w:=w) A (bN.out.trans (ae hb2 (fun k=>k=g)) (fun _ _ h=>h)) (b0.out.below hb2) cj (.int .i64 ak) (.int .i64 a0) (.slice sp a2 bs) (.int .i64 a3) (.int .i64 a4) (.int .i64 a5) (.slice bc a6 bb) (.int .i64 a7) (.int .i64 a8) (.int .i64 a9) (.slice be a1 bd));have fx:Hid (∀o,cT (cA (w2.alloc o) w.1.size (.int .i64 ak) (.int .i64 a0) (.slice sp a2 bs) (.int .i64 a3) (.int .i64 a4) (.int .i64 a5) (.slice bc a6 bb) (.int .i64 a7) (.int .i64 a8) (.int .i64 a9) (.slice be a1 bd)) w.1.size #[.int .i64 ak,.int .i64 a0,.slice sp a2 bs,.int .i64 a3,.int .i64 a4,.int .i64 a5,.slice bc a6 bb,.int .i64 a7,.int .i64 a8,.int .i64 a9,.slice be a1 bd] f):=fun o=>by
    have b4:=bX.out.beside14 (ae (xY.alloc xZ o) (fun _=>False)) (fun k ck=>ck.elim);exact(b4.beside14 (ay (w2.alloc o) w.1.size (.int .i64 ak) (.int .i64 a0) (.slice sp a2 bs) (.int .i64 a3) (.int .i64 a4) (.int .i64 a5) (.slice bc a6 bb) (.int .i64 a7) (.int .i64 a8) (.int .i64 a9) (.slice be a1 bd)) (fun k ck=>by omega)).low14 (by omega)
   obtain⟨eu,ew,eC,eL,eS,eU,e0,e1,e2,e3,ez⟩:=dD A;obtain⟨e4,e5,e7,e8,e9,fi,fo,fr,fs,fv,e6⟩:=dh A;clear ci hb2 bl J A bO R cw df cy c5 c6 c7 c8 c9 dd cx bX;go_wp2;refine bodyPost_ret (af rfl _ _ w.1.size _ _ _ _ rfl (bT.out _).1 Tryz.underlying47 rfl (by kernel_rfl)) rfl ?_;rw[b1.out];exact⟨⟨_,rfl,fx.out _⟩,(bT.out _).2.1,(bT.out _).2.2⟩
theorem kAt(h:aH w B g v s x k)(hd:s.down=false)(A:s.b.length<=2097152)(M:s.told+s.b.length<=9223372036854775807)(O:Hv w)(J:2<B)(p:Int):
  Calls Tryz.prog 19 #[.pointer (some ⟨g,0,none⟩),.int .i64 p] w fun e w'=>AtA (Sc.at_ s.b p) w e w'∧aH w' B g v { s with told:=s.told+Sc.reads s.b p } x k∧Aside (fun k=>k=g) w w':=by
 by_cases D:p<0∨(s.b.length:Int)<=p
 ·have z:Sc.reads s.b p=0:=by unfold Sc.reads;rw[if_pos D]
  have L:{ s with told:=s.told+Sc.reads s.b p }=s:=by rw[z];rfl
  rw[L];by_cases y:p<0∨(s.b.length:Int)<p
  ·have o:Sc.at_ s.b p=.error 7:=(by unfold Sc.at_;rw[if_pos y]);rw[o];exact o9 h p 7 (by decide) (fun I hb=>nK (h.below hb) hd p y)
  ·have E:p=(s.b.length:Int):=(by omega);have o:Sc.at_ s.b p=.error 140:=(by unfold Sc.at_;rw[if_neg y,if_pos E]);rw[o];refine o9 h p 140 (by decide) (fun I hb=>?_);rw[E];exact nL (h.below hb) hd A
 ·obtain⟨q,rfl⟩:∃q:Nat,p=(q:Int):=⟨p.toNat,by omega⟩;have K:q<s.b.length:=by omega
  have z:Sc.reads s.b (q:Int)=((s.b.drop q).take 2202).length:=by unfold Sc.reads;rw[if_neg D];rfl
  have o:Sc.at_ s.b (q:Int)=(match Sc.runOf ((s.b.drop q).take 2202) with
   |.error e=>.error e
   |.ok r=>match Fr.dec r with
    |.error e=>.error e
    |.ok f=>.ok (f,q+r.length+2)):=by
   unfold Sc.at_;rw[if_neg (by omega),if_neg (by omega)];rfl
  rw[o,z];exact wu h hd A M O J q K _ rfl
end
end
end Go.Proofs.YtdkammppnkhhoaaGreatDoor
