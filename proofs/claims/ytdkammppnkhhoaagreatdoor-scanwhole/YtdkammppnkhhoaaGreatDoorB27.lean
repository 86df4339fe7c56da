import Derived.Test.YtdkammppnkhhoaaGreatDoorB20
set_option maxRecDepth 100000
set_option maxHeartbeats 4000000
namespace Go.Proofs.YtdkammppnkhhoaaGreatDoor
open Go.RowKit
theorem fa(es o:List Ent)(i:Nat)(y:i<es.length)(z:i<o.length)(h:(es.take i).map Ent.tup=(o.take i).map Ent.tup)(A:es[i].tup=o[i].tup):(es.take (i+1)).map Ent.tup=(o.take (i+1)).map Ent.tup:=by
 rw[List.take_succ_eq_append_getElem y,List.take_succ_eq_append_getElem z,List.map_append,List.map_append,h];simp[A]
theorem uL(p q:OA)(c d:Nat)(es o:List Ent)(bq:es.length*24<=140737488351232)(w:World)(y:di w p es)(A:di w q o):
  Calls Tryz.prog 67 #[.slice p es.length c,.slice q o.length d] w fun e w'=>e=.returned (.bool (decide (es.map Ent.tup=o.map Ent.tup)))∧∃n,w'=w.drewN n:=by
 obtain⟨J,O⟩:∃J,J=decide (es.map Ent.tup=o.map Ent.tup):=⟨_,rfl⟩;rw[<-O];have L:=xX O;have a6:=xX y;have a7:=xX A;clear O y A;by_cases K:es.length=o.length
 ·have M:((es.length:Int) != (o.length:Int))=false:=by rw[bne_eq_false_iff_eq];omega
  have Y:=xX K;obtain⟨m,a2⟩:∃m,m=o.length:=⟨_,rfl⟩;rw[<-a2] at M ⊢;have bc:m=es.length:=by omega
  subst bc;clear a2 M K;go_enter Tryz.func67,Tryz.ntmps67;go_wp2;go_loopw [13] (fun U wr=>∃i n:Nat,i<=es.length∧U=.int .i64 i∧wr=w.drewN n∧Hid ((es.take i).map Ent.tup=(o.take i).map Ent.tup)) (fun U _=>es.length-(intOf U).toNat);case atStart=>exact⟨0,0,by omega,rfl,rfl,rfl⟩
  case round=>
   obtain⟨i,n,bp,rfl,rfl,I⟩:=hrel;by_cases a0:i<es.length
   ·have bs:(i:Int)<(es.length:Int):=(by omega);have a1:i<o.length:=(by have:=Y.out;omega);obtain⟨bk,bN,bd,-,a3,a4,a5⟩:=a6.out i a0;obtain⟨bl,bO,be,-,V,W,X⟩:=a7.out i a1;subst bd be;by_cases D:es[i].tup=o[i].tup
    ·have a8:=xX (fa es o i a0 a1 I.out D);simp only[Ent.tup,Prod.mk.injEq] at D;obtain⟨Z,ah,aj⟩:=D;rw[<-Z] at V;rw[<-ah] at W;rw[<-aj] at X;generalize es[i].at_=a at a3 V;generalize es[i].row=b at a4 W;generalize es[i].sch=c' at a5 X;clear Z ah aj I;go_wp2;go_quiet (fail);go_wp2;go_roundw;case rel=>exact⟨i+1,_,by omega,by go_num,rfl,a8⟩
     case measure=>simp[intOf];omega
    ·have E:Hid (J=false):=by
      show _=_;rw[L.out,decide_eq_false];intro R;have a9:=dy R;subst a9;exact D rfl
     have z:(¬es[i].at_=o[i].at_)∨(es[i].at_=o[i].at_∧¬es[i].row=o[i].row)∨(es[i].at_=o[i].at_∧es[i].row=o[i].row∧¬es[i].sch=o[i].sch):=by
      by_cases y:es[i].at_=o[i].at_
      ·by_cases A:es[i].row=o[i].row
       ·by_cases ak:es[i].sch=o[i].sch
        ·exact absurd (by simp only[Ent.tup,y,A,ak]) D
        ·exact .inr (.inr ⟨y,A,ak⟩)
       ·exact .inr (.inl ⟨y,A⟩)
      ·exact .inl y
     generalize es[i].at_=a at a3 z;generalize es[i].row=b at a4 z;generalize es[i].sch=c' at a5 z;generalize o[i].at_=bj at V z;generalize o[i].row=b2' at W z;generalize o[i].sch=c2' at X z;clear D I;rcases z with y | ⟨rfl,y⟩ | ⟨rfl,rfl,y⟩
     all_goals
      have bn:=aK y;clear y;go_wp2;go_quiet (fail);go_wp2;go_ret;exact⟨by rw[E.out];rfl,_,World.drewN_drewN ..⟩
   ·have bb:i=es.length:=(by omega);subst bb;have E:Hid (J=true):=by
     show _=_;rw[L.out,decide_eq_true_iff];have:=I.out;rw[List.take_length,Y.out,List.take_length] at this;exact this
    clear I;go_wp2;go_ret;exact⟨by rw[E.out];rfl,n,rfl⟩
 ·have M:((es.length:Int) != (o.length:Int))=true:=by rw[bne_iff_ne];omega
  have E:Hid (J=false):=by
   show _=_;rw[L.out,decide_eq_false];intro R;have:=congrArg List.length R;simp at this;exact K this
  clear K;go_enter Tryz.func67,Tryz.ntmps67;go_wp2;go_ret;exact⟨by rw[E.out];rfl,0,rfl⟩
end Go.Proofs.YtdkammppnkhhoaaGreatDoor
