import Derived.Test.YtdkammppnkhhoaaGreatDoorB30
set_option maxRecDepth 100000
set_option maxHeartbeats 4000000
namespace Go.Proofs.YtdkammppnkhhoaaGreatDoor
open Go.RowKit
attribute [local go_sem] bf bh
theorem oZ(q:Nat)(h:q<=1048576)(w:World):Calls Tryz.prog 16 #[.int .i64 q] w fun e w'=>e=.returned (.tuple #[.pointer (some ⟨w.1.size,0,none⟩),.int .i64 0])∧aH w' w.1.size w.1.size (.slice none 0 0) (Dv.new q) 0 0∧Below w.1.size w w':=by
 have y:Hid (aH (w.alloc (.cells (aN (.slice none 0 0) (Dv.new q) 0 0 .nilFunc) 82)) w.1.size w.1.size (.slice none 0 0) (Dv.new q) 0 0) :=
  ⟨bB w _,aI _ _,xZ,fun _=>⟨rfl,rfl⟩,by omega,by omega⟩
 have o:Hid (Below w.1.size w (w.alloc (.cells (aN (.slice none 0 0) (Dv.new q) 0 0 .nilFunc) 82))):=xV;have z:(q:Int)<=1048576:=by omega
 have A:decide ((q:Int)<0)=false:=decide_eq_false (by omega);go_enter Tryz.func16,Tryz.ntmps16;go_wp2;go_ret2;exact⟨rfl,y.out,o.out⟩
section
variable {B g:Nat} {v:Value} {s:Dv.St} {x k:Nat} {w:World}
theorem xv(h:aH w B g v s x k)(a n:Int)(b3:-9223372036854775808<=a)(b4:a<=9223372036854775807)(ck:n<=9223372036854775807)(cc:s.b.length<=2097152)(co:s.told+s.b.length<=9223372036854775807):
  Calls Tryz.prog 76 #[.pointer (some ⟨g,0,none⟩),.int .i64 a,.int .i64 n] w fun e w'=>∃q cap,e=.returned (.tuple #[.slice q (Dv.read s a n).1.length cap,.int .i64 ((Dv.read s a n).2.1:Nat)])∧Has w' w.1.size (.slice q (Dv.read s a n).1.length cap) (Dv.read s a n).1∧aH w' B g v (Dv.read s a n).2.2 x k∧Aside (fun k=>k=g) w w':=by
 have c0:w.cell? ⟨g,0,none⟩=some v:=h.cell 0;have a2:=xX h;obtain⟨p,cap,a1,Z,b7⟩:=h.has.at;subst a1;by_cases O:a<0∨(s.b.length:Int)<a∨n<0
 ·have K:Hid (Dv.read s a n=([],7,s)):=by show _=_;unfold Dv.read;rw[if_pos O]
  clear h Z;have a9:∃q U,Ending.returned (.tuple #[.slice none 0 0,.int .i64 7])=.returned (.tuple #[.slice q (Dv.read s a n).1.length U,.int .i64 ((Dv.read s a n).2.1:Nat)])∧Has w w.1.size (.slice q (Dv.read s a n).1.length U) (Dv.read s a n).1∧aH w B g (.slice p s.b.length cap) (Dv.read s a n).2.2 x k∧Aside (fun k=>k=g) w w:=by
   rw[K.out];exact⟨none,0,rfl,aI _ _,a2.out,Aside.refl _ _⟩
  have z:=xX a9;clear a9 K;by_cases a4:a<0
  ·clear O;have a6:decide (a<0)=true:=decide_eq_true a4;go_enter Tryz.func76,Tryz.ntmps76;go_wp2;go_ret2;exact z.out
  ·have a6:decide (a<0)=false:=decide_eq_false a4;by_cases bs:(s.b.length:Int)<a
   ·clear O;go_enter Tryz.func76,Tryz.ntmps76;go_wp2;go_ret2;exact z.out
   ·have b2:n<0:=(by omega);have a7:decide ((s.b.length:Int)<a)=false:=decide_eq_false bs;clear O;go_enter Tryz.func76,Tryz.ntmps76;go_wp2;go_ret2;exact z.out
 ·obtain⟨i,rfl⟩:∃i:Nat,a=(i:Int):=⟨a.toNat,by omega⟩;obtain⟨m,rfl⟩:∃m:Nat,n=(m:Int):=⟨n.toNat,by omega⟩;have bb:i<=s.b.length:=by omega
  obtain⟨o,E⟩:∃o,o=(s.b.drop i).take m:=⟨_,rfl⟩;have K:Hid (Dv.read s i m=(o,0,{ s with told:=s.told+o.length })):=by show _=_;unfold Dv.read;rw[if_neg O,E];rfl
  have ah:o.length=min m (s.b.length-i):=by rw[E,List.length_take,List.length_drop]
  have a6:decide ((i:Int)<0)=false:=decide_eq_false (by omega);have a7:decide (s.b.length<i)=false:=decide_eq_false (by omega);have b5:decide ((m:Int)<0)=false:=decide_eq_false (by omega);have b9:=h.lt;clear O;have c3:w.cell? ⟨g,3,none⟩=some (.int .i64 s.told):=h.cell 3;have R:Hid (∀w1 q c1,Has w1 w.1.size (.slice q o.length c1) o->Below w.1.size w w1->w1.cell? ⟨g,3,none⟩=some (.int .i64 s.told)∧w1.frozen? ⟨g,3,none⟩=false∧∃bn U,Ending.returned (.tuple #[.slice q o.length c1,.int .i64 0])=.returned (.tuple #[.slice bn (Dv.read s i m).1.length U,.int .i64 ((Dv.read s i m).2.1:Nat)])∧Has (w1.setCell ⟨g,3,none⟩ (.int .i64 ((s.told:Int)+(o.length:Int)))) w.1.size (.slice bn (Dv.read s i m).1.length U) (Dv.read s i m).1∧aH (w1.setCell ⟨g,3,none⟩ (.int .i64 ((s.told:Int)+(o.length:Int)))) B g (.slice p s.b.length cap) (Dv.read s i m).2.2 x k∧Aside (fun k=>k=g) w (w1.setCell ⟨g,3,none⟩ (.int .i64 ((s.told:Int)+(o.length:Int))))):=by
   intro w1 q c1 y hb;have M:=a2.out.below hb;refine⟨M.cell 3,M.thawed 3,q,c1,?_,?_,?_,?_⟩
   ·rw[K.out];rfl
   ·rw[K.out];exact y.aside ((Aside.refl (·=g) w1).setCell (p:=⟨g,3,none⟩) (.inl rfl) _) (fun j aj b6=>by have:=(y.lt j aj).1;omega)
   ·rw[K.out];exact M.put 3 _ (by simp[aN]) rfl M.due M.left M.keep
   ·exact(ae hb (fun k=>k=g)).setCell (p:=⟨g,3,none⟩) (.inl rfl) _
  have bc:(s.told:Int)+(o.length:Int)<=9223372036854775807:=by omega
  obtain⟨r,ak⟩:∃r,r=s.b.length-i:=⟨_,rfl⟩;have b0:IntKind.i64.wrap ((s.b.length:Int)-(i:Int))=(r:Int):=by rw[IntKind.wrap_i64];omega
  rcases h.has.form with ⟨bX,bj⟩ | ⟨D,b1,a1,bd⟩
  ·have bO:i=0:=(by rw[bj] at bb;simpa using bb);have V:o=[]:=(by rw[E,bj];simp);injection bX with e1 e2 e3;subst e1 e3 bO V;have J:=xX (fun w'=>o8 none 0 [] (by simp) w' (.inl rfl));rw[e2] at c0 a7;clear h Z ak b0 E ah bc;by_cases cj:0<m
   ·have be:(0:Int)<(m:Int):=(by omega);go_enter Tryz.func76,Tryz.ntmps76;go_wp2_with fail
    go_region_with (go_at_call 104;refine(J.out _).mono ?_;rintro e w1 ⟨I,c1,rfl,y,hb⟩;obtain⟨X,Y,A⟩:=R.out w1 I c1 (by exact y) ((Below.refl w.1.size w).drew.trans hb);have z:=xX A;clear y hb A)
    all_goals
     go_wp2;go_ret2;exact z.out
   ·have be:m=0:=(by omega);subst be;go_enter Tryz.func76,Tryz.ntmps76;go_wp2_with fail
    go_region_with (go_at_call 104;refine(J.out _).mono ?_;rintro e w1 ⟨I,c1,rfl,y,hb⟩;obtain⟨X,Y,A⟩:=R.out w1 I c1 (by exact y) ((Below.refl w.1.size w).drew.trans hb);have z:=xX A;clear y hb A)
    all_goals
     go_wp2;go_ret2;exact z.out
  ·injection a1 with e1 _ e2;subst e1 e2;obtain⟨t,W⟩:∃t,t=o.length:=⟨_,rfl⟩;obtain⟨L,a8⟩:∃L,L=i+t:=⟨_,rfl⟩;have cp:L-i=t:=(by omega);have cb:i<=L:=(by omega);have b8:L<=cap:=(by omega);have cq:IntKind.i64.wrap ((i:Int)+(t:Int))=(L:Int):=(by rw[IntKind.wrap_i64];omega);have J:Hid (∀w',w'.1=w.1->Calls Tryz.prog 104 #[.slice (if cap=i then some ⟨D,0,none⟩ else some ⟨D,i,none⟩) t (cap-i)] w' fun bq bp=>∃q a3,bq=.returned (.slice q t a3)∧Has bp w'.1.size (.slice q t a3) o∧Below w'.1.size w' bp):=by
    intro w' bk;have bN:At w' (if cap=i then some ⟨D,0,none⟩ else some ⟨D,i,none⟩) o:=by
     by_cases V:o=[]
     ·exact .inl V
     ·have cn:=List.length_pos_iff.2 V;rw[if_neg (by omega)];refine .inr ⟨D,i,rfl,?_,?_⟩
      ·rw[bk];exact bd.base.2.1
      ·have a5:=dq (cu bd.free.2.1 i) m;rw[<-E,Nat.zero_add] at a5;intro j aj;rw[World.cell?_of_block (w:=w) (by rw[bk])];exact a5 j aj
    have:=o8 _ (cap-i) o (by omega) w' bN;rw[<-W] at this;exact this
   obtain⟨bl,bT⟩:∃bl,(if cap=i then some (⟨D,0,none⟩:Addr) else some ⟨D,i,none⟩)=bl:=⟨_,rfl⟩;rw[bT] at J;clear h Z;rw[<-W] at R bc;by_cases ci:r<m
   ·have a0:r=t:=(by omega);subst a0;clear ak E a8 W ah;go_enter Tryz.func76,Tryz.ntmps76;go_wp2_with fail
    go_region_with (go_at_call 104;refine(J.out _ (by rfl)).mono ?_;rintro e w1 ⟨I,c1,rfl,y,hb⟩;obtain⟨X,Y,A⟩:=R.out w1 I c1 (by exact y) ((Below.refl w.1.size w).drew.trans hb);have z:=xX A;clear y hb A)
    all_goals
     go_wp2;go_ret2;exact z.out
   ·have a0:m=t:=(by omega);subst a0;clear ak E a8 W ah;go_enter Tryz.func76,Tryz.ntmps76;go_wp2_with fail
    go_region_with (go_at_call 104;refine(J.out _ (by rfl)).mono ?_;rintro e w1 ⟨I,c1,rfl,y,hb⟩;obtain⟨X,Y,A⟩:=R.out w1 I c1 (by exact y) ((Below.refl w.1.size w).drew.trans hb);have z:=xX A;clear y hb A)
    all_goals
     go_wp2;go_ret2;exact z.out
end
end Go.Proofs.YtdkammppnkhhoaaGreatDoor
