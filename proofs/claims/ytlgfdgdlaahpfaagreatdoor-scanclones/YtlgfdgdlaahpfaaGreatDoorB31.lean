import Derived.Test.YtlgfdgdlaahpfaaGreatDoorB30
set_option maxRecDepth 100000
set_option maxHeartbeats 4000000
namespace Go.Proofs.YtlgfdgdlaahpfaaGreatDoor
open Go.RowKit
attribute [local go_sem] aP aT
theorem sv(q:Nat)(h:q<=1048576)(w:World):Calls Tryz.prog 19 #[.int .i64 q] w fun e w'=>e=.returned (.tuple #[.pointer (some ⟨w.1.size,0,none⟩),.int .i64 0])∧aE w' w.1.size w.1.size (.slice none 0 0) (Dv.new q) 0 0∧Below w.1.size w w':=by
 have HR:Hid (aE (w.alloc (.cells (aF (.slice none 0 0) (Dv.new q) 0 0 .nilFunc) 101)) w.1.size w.1.size (.slice none 0 0) (Dv.new q) 0 0) :=
  ⟨bK w _,aR _ _,vX,fun _=>⟨rfl,rfl⟩,by omega,by omega⟩
 have HB:Hid (Below w.1.size w (w.alloc (.cells (aF (.slice none 0 0) (Dv.new q) 0 0 .nilFunc) 101))):=vY
 have h1:(q:Int)<=1048576:=by omega
 have hb0:decide ((q:Int)<0)=false:=decide_eq_false (by omega)
 go_enter Tryz.func19,Tryz.ntmps19
 go_wp2
 go_ret2
 exact⟨rfl,HR.out,HB.out⟩
section
variable {B g:Nat} {v:Value} {s:Dv.St} {x k:Nat} {w:World}
theorem uI(h:aE w B g v s x k)(a n:Int)(ha1:-9223372036854775808<=a)(ha2:a<=9223372036854775807)(hn2:n<=9223372036854775807)(hl:s.b.length<=2097152)(ht:s.told+s.b.length<=9223372036854775807):
  Calls Tryz.prog 79 #[.pointer (some ⟨g,0,none⟩),.int .i64 a,.int .i64 n] w fun e w'=>∃q cap,e=.returned (.tuple #[.slice q (Dv.read s a n).1.length cap,.int .i64 ((Dv.read s a n).2.1:Nat)])∧Has w' w.1.size (.slice q (Dv.read s a n).1.length cap) (Dv.read s a n).1∧aE w' B g v (Dv.read s a n).2.2 x k∧Aside (fun k=>k=g) w w':=by
 have c0:w.cell? ⟨g,0,none⟩=some v:=h.cell 0
 have HR:=vQ h
 obtain⟨p,cap,hv,hA,hcap⟩:=h.has.at
 subst hv
 by_cases hx:a<0∨(s.b.length:Int)<a∨n<0
 ·have HE:Hid (Dv.read s a n=([],7,s)):=by show _=_;unfold Dv.read;rw[if_pos hx]
  clear h hA
  have hfin:∃q cap',Ending.returned (.tuple #[.slice none 0 0,.int .i64 7])=.returned (.tuple #[.slice q (Dv.read s a n).1.length cap',.int .i64 ((Dv.read s a n).2.1:Nat)])∧Has w w.1.size (.slice q (Dv.read s a n).1.length cap') (Dv.read s a n).1∧aE w B g (.slice p s.b.length cap) (Dv.read s a n).2.2 x k∧Aside (fun k=>k=g) w w:=by
   rw[HE.out]
   exact⟨none,0,rfl,aR _ _,HR.out,Aside.refl _ _⟩
  have HF:=vQ hfin
  clear hfin HE
  by_cases h0:a<0
  ·clear hx
   have hb0:decide (a<0)=true:=decide_eq_true h0
   go_enter Tryz.func79,Tryz.ntmps79
   go_wp2
   go_ret2
   exact HF.out
  ·have hb0:decide (a<0)=false:=decide_eq_false h0
   by_cases h1:(s.b.length:Int)<a
   ·clear hx
    go_enter Tryz.func79,Tryz.ntmps79
    go_wp2
    go_ret2
    exact HF.out
   ·have h2:n<0:=by omega
    have hb1:decide ((s.b.length:Int)<a)=false:=decide_eq_false h1
    clear hx
    go_enter Tryz.func79,Tryz.ntmps79
    go_wp2
    go_ret2
    exact HF.out
 ·obtain⟨i,rfl⟩:∃i:Nat,a=(i:Int):=⟨a.toNat,by omega⟩
  obtain⟨m,rfl⟩:∃m:Nat,n=(m:Int):=⟨n.toNat,by omega⟩
  have hil:i<=s.b.length:=by omega
  obtain⟨L,hL⟩:∃L,L=(s.b.drop i).take m:=⟨_,rfl⟩
  have HE:Hid (Dv.read s i m=(L,0,{ s with told:=s.told+L.length })):=by show _=_;unfold Dv.read;rw[if_neg hx,hL];rfl
  have hLl:L.length=min m (s.b.length-i):=by rw[hL,List.length_take,List.length_drop]
  have hb0:decide ((i:Int)<0)=false:=decide_eq_false (by omega)
  have hb1:decide (s.b.length<i)=false:=decide_eq_false (by omega)
  have hb3:decide ((m:Int)<0)=false:=decide_eq_false (by omega)
  have hg:=h.lt
  clear hx
  have c3:w.cell? ⟨g,3,none⟩=some (.int .i64 s.told):=h.cell 3
  have HEnd:Hid (∀w1 q c1,Has w1 w.1.size (.slice q L.length c1) L->Below w.1.size w w1->w1.cell? ⟨g,3,none⟩=some (.int .i64 s.told)∧w1.frozen? ⟨g,3,none⟩=false∧∃q' cap',Ending.returned (.tuple #[.slice q L.length c1,.int .i64 0])=.returned (.tuple #[.slice q' (Dv.read s i m).1.length cap',.int .i64 ((Dv.read s i m).2.1:Nat)])∧Has (w1.setCell ⟨g,3,none⟩ (.int .i64 ((s.told:Int)+(L.length:Int)))) w.1.size (.slice q' (Dv.read s i m).1.length cap') (Dv.read s i m).1∧aE (w1.setCell ⟨g,3,none⟩ (.int .i64 ((s.told:Int)+(L.length:Int)))) B g (.slice p s.b.length cap) (Dv.read s i m).2.2 x k∧Aside (fun k=>k=g) w (w1.setCell ⟨g,3,none⟩ (.int .i64 ((s.told:Int)+(L.length:Int))))):=by
   intro w1 q c1 hu hb
   have hK:=HR.out.below hb
   refine⟨hK.cell 3,hK.thawed 3,q,c1,?_,?_,?_,?_⟩
   ·rw[HE.out];rfl
   ·rw[HE.out]
    exact hu.aside ((Aside.refl (·=g) w1).setCell (p:=⟨g,3,none⟩) (.inl rfl) _) (fun j hj hc=>by have:=(hu.lt j hj).1;omega)
   ·rw[HE.out]
    exact hK.put 3 _ (by simp[aF]) rfl hK.due hK.left hK.keep
   ·exact(ae hb (fun k=>k=g)).setCell (p:=⟨g,3,none⟩) (.inl rfl) _
  have hlim:(s.told:Int)+(L.length:Int)<=9223372036854775807:=by omega
  obtain⟨r,hr⟩:∃r,r=s.b.length-i:=⟨_,rfl⟩
  have hw1:IntKind.i64.wrap ((s.b.length:Int)-(i:Int))=(r:Int):=by rw[IntKind.wrap_i64];omega
  rcases h.has.form with ⟨hv0,hn0⟩ | ⟨g2,cap2,hv,hm⟩
  ·have hi0:i=0:=by rw[hn0] at hil;simpa using hil
   have hL0:L=[]:=by rw[hL,hn0];simp
   injection hv0 with e1 e2 e3
   subst e1 e3 hi0 hL0
   have HC:=vQ (fun w'=>nr none 0 [] (by simp) w' (.inl rfl))
   rw[e2] at c0 hb1
   clear h hA hr hw1 hL hLl hlim
   by_cases hm0:0<m
   ·have hm1:(0:Int)<(m:Int):=by omega
    go_enter Tryz.func79,Tryz.ntmps79
    go_wp2_with fail
    go_region_with (go_at_call 112;refine(HC.out _).mono ?_;rintro e w1 ⟨q1,c1,rfl,hu,hb⟩;obtain⟨d3,f3,hend⟩:=HEnd.out w1 q1 c1 (by exact hu) ((Below.refl w.1.size w).drew.trans hb);have HF:=vQ hend;clear hu hb hend)
    all_goals
     go_wp2
     go_ret2
     exact HF.out
   ·have hm1:m=0:=by omega
    subst hm1
    go_enter Tryz.func79,Tryz.ntmps79
    go_wp2_with fail
    go_region_with (go_at_call 112;refine(HC.out _).mono ?_;rintro e w1 ⟨q1,c1,rfl,hu,hb⟩;obtain⟨d3,f3,hend⟩:=HEnd.out w1 q1 c1 (by exact hu) ((Below.refl w.1.size w).drew.trans hb);have HF:=vQ hend;clear hu hb hend)
    all_goals
     go_wp2
     go_ret2
     exact HF.out
  ·injection hv with e1 _ e2
   subst e1 e2
   obtain⟨t,ht0⟩:∃t,t=L.length:=⟨_,rfl⟩
   obtain⟨e0,he0⟩:∃e0,e0=i+t:=⟨_,rfl⟩
   have hte:e0-i=t:=by omega
   have hie:i<=e0:=by omega
   have hec:e0<=cap:=by omega
   have hw2:IntKind.i64.wrap ((i:Int)+(t:Int))=(e0:Int):=by rw[IntKind.wrap_i64];omega
   have HC:Hid (∀w',w'.1=w.1->Calls Tryz.prog 112 #[.slice (if cap=i then some ⟨g2,0,none⟩ else some ⟨g2,i,none⟩) t (cap-i)] w' fun e' w''=>∃q c',e'=.returned (.slice q t c')∧Has w'' w'.1.size (.slice q t c') L∧Below w'.1.size w' w''):=by
    intro w' hw'
    have hAt:At w' (if cap=i then some ⟨g2,0,none⟩ else some ⟨g2,i,none⟩) L:=by
     by_cases hL0:L=[]
     ·exact .inl hL0
     ·have hpos:=List.length_pos_iff.2 hL0
      rw[if_neg (by omega)]
      refine .inr ⟨g2,i,rfl,?_,?_⟩
      ·rw[hw'];exact hm.base.2.1
      ·have h3:=dN (dO hm.free.2.1 i) m
       rw[<-hL,Nat.zero_add] at h3
       intro j hj
       rw[World.cell?_of_block (w:=w) (by rw[hw'])]
       exact h3 j hj
    have:=nr _ (cap-i) L (by omega) w' hAt
    rw[<-ht0] at this
    exact this
   obtain⟨pa,hpa⟩:∃pa,(if cap=i then some (⟨g2,0,none⟩:Addr) else some ⟨g2,i,none⟩)=pa:=⟨_,rfl⟩
   rw[hpa] at HC
   clear h hA
   rw[<-ht0] at HEnd hlim
   by_cases hlt:r<m
   ·have hrt:r=t:=by omega
    subst hrt
    clear hr hL he0 ht0 hLl
    go_enter Tryz.func79,Tryz.ntmps79
    go_wp2_with fail
    go_region_with (go_at_call 112;refine(HC.out _ (by rfl)).mono ?_;rintro e w1 ⟨q1,c1,rfl,hu,hb⟩;obtain⟨d3,f3,hend⟩:=HEnd.out w1 q1 c1 (by exact hu) ((Below.refl w.1.size w).drew.trans hb);have HF:=vQ hend;clear hu hb hend)
    all_goals
     go_wp2
     go_ret2
     exact HF.out
   ·have hrt:m=t:=by omega
    subst hrt
    clear hr hL he0 ht0 hLl
    go_enter Tryz.func79,Tryz.ntmps79
    go_wp2_with fail
    go_region_with (go_at_call 112;refine(HC.out _ (by rfl)).mono ?_;rintro e w1 ⟨q1,c1,rfl,hu,hb⟩;obtain⟨d3,f3,hend⟩:=HEnd.out w1 q1 c1 (by exact hu) ((Below.refl w.1.size w).drew.trans hb);have HF:=vQ hend;clear hu hb hend)
    all_goals
     go_wp2
     go_ret2
     exact HF.out
end
end Go.Proofs.YtlgfdgdlaahpfaaGreatDoor
