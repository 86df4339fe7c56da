import Derived.Test.YtbahfgdbjgkklaaGreatDoorB11
import Derived.Test.YtbahfgdbjgkklaaGreatDoorB10
set_option maxRecDepth 100000
set_option maxHeartbeats 4000000
namespace Go.Proofs.YtbahfgdbjgkklaaGreatDoor
variable{g:Nat}{w w1 w2 w3 w4:World}{k:Int}{u:AV}{s:List Col}{x:Ty}
section
open Go.RowKit
def zR(w:World)(a:Nat)(r:Except Nat (Ty×Nat))(e:Ending)(w':World):Prop:=match r with
 |.error er=>e=.returned (.tuple #[.agg (an 0 none 0 0),.int .i64 0,.int .i64 (er:Nat)])∧Below w.1.size w w'
 |.ok (t,k)=>∃u,e=.returned (.tuple #[.agg u,.int .i64 ((a+k:Nat):Int),.int .i64 0])∧aW w' (fun k=>w.1.size<=k∧k<w'.1.size) u t∧Below w.1.size w w'
theorem jr:∀(f:Nat) (l:L8) (e:Nat),Sch.rdT f l=.error e->e≠0
 |0,l,e,h=>by rw[Sch.rdT] at h;injection h with h;omega
 |f+1,[],e,h=>by rw[Sch.rdT] at h;injection h with h;omega
 |f+1,c::r,e,h=>by
  rw[Sch.rdT] at h;split at h
  ·injection h with h;omega
  split at h
  ·cases h
  split at h
  ·next e' he=>injection h with h;rw[<-h];exact jr f r e' he
  ·cases h
def pP(w:World)(g:Nat)(k:Int)(v:Value):World:=(w.setCell ⟨g,0,none⟩ (.int .i64 k)).setCell ⟨g,1,none⟩ v
theorem nR{q:OA}{n c:Nat}{F:Nat->Prop}(E:w1.1[w.1.size]?=some (.cells (an 0 none 0 0) 34 (0,0)))(hb:Below w.1.size w w1)(K:w.1.size+1<=w1.1.size)(J:aW w1 F (an k q n c) x)(y:∀j,F j->w.1.size+1<=j∧j<w1.1.size):
  (pP w1 w.1.size k (.slice q n c)).1[w.1.size]?=some (.cells (an k q n c) 34 (0,0))∧aW (pP w1 w.1.size k (.slice q n c)) (fun j=>w.1.size<=j∧j<(pP w1 w.1.size k (.slice q n c)).1.size) (an k q n c) x∧Below w.1.size w (pP w1 w.1.size k (.slice q n c)):=by
 have o:Aside (fun k=>k=w.1.size) w1 (pP w1 w.1.size k (.slice q n c)):=by
  unfold pP;exact((Aside.refl (fun k=>k=w.1.size) w1).setCell (p:=⟨w.1.size,0,none⟩) (.inl rfl) _).setCell (p:=⟨w.1.size,1,none⟩) (.inl rfl) _
 refine⟨?_,?_,?_⟩
 ·unfold pP;rw[ai (ai E 0 _) 1 _];rfl
 ·exact(J.aside o (fun k D I=>by have:=y k D;omega)).mono (fun j z=>⟨by have:=y j z;omega,by have:=y j z;have:=o.size;omega⟩)
 ·exact hb.trans (o.below (by omega) (fun k D I=>by omega))
theorem mp(p:OA)(l:L8)(c:Nat)(cc:l.length<=140737488351232):∀(f:Nat) (a:Nat) (w:World),f<=4->a<=l.length->At w p l->Calls Tryz.prog 133 #[.slice p l.length c,.int .i64 a,.int .i64 ((5-f:Nat):Int)] w (zR w a (Sch.rdT f (l.drop a))):=by
 intro f;induction f with
 |zero=>
  intro a w _ b3 W;have K:Hid (∀J,Below w.1.size w (w.alloc J)):=fun J=>gQy;rw[Sch.rdT];clear W;go_enter Tryz.func133,Tryz.ntmps133;go_wp2;refine bodyPost_ret (ap rfl _ _ w.1.size _ _ _ _ rfl (am w _) Tryz.underlying34 rfl (by kernel_rfl)) rfl ?_;exact⟨rfl,K.out _⟩
 |succ f ih=>
  intro a w b5 b3 W;have K:Hid (∀J,Below w.1.size w (w.alloc J)):=fun J=>gQy;have hd:¬(4:Int)<((5-(f+1):Nat):Int):=by omega
  obtain⟨a0,a4⟩:∃a0,a0=5-(f+1):=⟨_,rfl⟩;rw[<-a4] at hd ⊢;by_cases bs:a<l.length
  ·obtain⟨b,J,rfl,hb,a3⟩:=aC W (by omega);have c0:∀J,(w.alloc J).cell? _=_:=fun J=>ae (K.out J) (a3 a bs);have b1:¬(l.length:Int)<=(a:Int):=(by omega);have cb:(a:Int)<(l.length:Int):=by omega
   have S:Hid (Sch.rdT (f+1) (l.drop a)=if l[a].toNat<1∨7<l[a].toNat then .error 60 else if l[a].toNat≠6∧l[a].toNat≠7 then .ok (⟨(l[a].toNat:Int),[]⟩,1) else match Sch.rdT f (l.drop (a+1)) with
     |.error e=>.error e
     |.ok (t,j)=>.ok (⟨(l[a].toNat:Int),[t]⟩,j+1)):=by
    show _=_;rw[List.drop_eq_getElem_cons bs,Sch.rdT];rfl
   have a5:=fun w' (hb:Below w.1.size w w')=>ih (a+1) w' (by omega) (by omega) (W.on hb);have bn:((5-f:Nat):Int)=(a0:Int)+1:=(by omega);rw[bn,show((a+1:Nat):Int)=(a:Int)+1 by omega] at a5;have Y:=gQq a5;have b2:=l[a].toNat_lt;generalize l[a].toNat=o at *
   clear a3 a5 bn a4 ih W b5;by_cases I:o<1∨7<o
   ·have y:Hid (Sch.rdT (f+1) (l.drop a)=.error 60):=(by show _=_;rw[S.out,if_pos I]);rw[y.out];clear S y Y;rcases I with I | I
    ·have a1:(o:Int)<1:=(by omega);clear I;go_enter Tryz.func133,Tryz.ntmps133;go_wp2;refine bodyPost_ret (ap rfl _ _ w.1.size _ _ _ _ rfl (am w _) Tryz.underlying34 rfl (by kernel_rfl)) rfl ?_;exact⟨rfl,K.out _⟩
    ·have a1:¬(o:Int)<1:=(by omega);have bq:(7:Int)<(o:Int):=(by omega);clear I;go_enter Tryz.func133,Tryz.ntmps133;go_wp2;refine bodyPost_ret (ap rfl _ _ w.1.size _ _ _ _ rfl (am w _) Tryz.underlying34 rfl (by kernel_rfl)) rfl ?_;exact⟨rfl,K.out _⟩
   have a1:¬(o:Int)<1:=(by omega);have bq:¬(7:Int)<(o:Int):=(by omega);by_cases ab:o≠6∧o≠7
   ·have y:Hid (Sch.rdT (f+1) (l.drop a)=.ok (⟨(o:Int),[]⟩,1)):=(by show _=_;rw[S.out,if_neg I,if_pos ab]);have b8:((o:Int) != 6)=true:=aQ (by omega);have b9:((o:Int) != 7)=true:=aQ (by omega);rw[y.out];clear S y Y I ab;go_enter Tryz.func133,Tryz.ntmps133;go_wp2;refine bodyPost_ret (ap rfl _ _ w.1.size _ _ _ _ rfl (am w _) Tryz.underlying34 rfl (by kernel_rfl)) rfl ?_;exact⟨_,by rw[show((a+1:Nat):Int)=(a:Int)+1 by omega];rfl,aW.none,K.out _⟩
   obtain⟨z,X⟩:∃z,z=w.alloc (.cells #[.int .i64 0,.slice none 0 0] 34):=⟨_,rfl⟩;have aj:Hid (Below w.1.size w z):=(by rw[X];exact K.out _);have bj:Hid (z.1[w.1.size]?=some (.cells (an 0 none 0 0) 34 (0,0))):=(by show _=_;rw[X];exact am w _);have cd:z.1.size=w.1.size+1:=(by rw[X];simp);have bk:=gQq X;obtain⟨R,O⟩:∃R,R=Sch.rdT f (l.drop (a+1)):=⟨_,rfl⟩;have a8:=jr f (l.drop (a+1))
   have U:Hid (Sch.rdT (f+1) (l.drop a)=match Sch.rdT f (l.drop (a+1)) with
     |.error e=>.error e
     |.ok (t,j)=>.ok (⟨(o:Int),[t]⟩,j+1)):=by show _=_;rw[S.out,if_neg I,if_neg ab]
   have Q:=gQq (Y.out z aj.out);have bO:o=6∨o=7:=(by omega);clear S Y I ab X a1 bq O;cases O:Sch.rdT f (l.drop (a+1)) with
   |error er=>
    rw[O] at Q U;have b4:=a8 er O;have ca:((er:Int) != 0)=true:=(by rw[bne_iff_ne];omega);have y:Hid (Sch.rdT (f+1) (l.drop a)=.error er):=U.out;rw[y.out];clear U y O a8 b4;rcases bO with rfl | rfl
    all_goals
     go_enter Tryz.func133,Tryz.ntmps133;go_wp2_with fail;rw[<-bk.out];refine Q.out.mono ?_;rintro e w2 ⟨rfl,L⟩;obtain⟨w3,E⟩:∃w3,w3=w2.alloc (.cells #[.int .i64 0,.slice none 0 0] 34):=⟨_,rfl⟩;have M:Below z.1.size z w3:=(by rw[E];exact L.alloc L.size _);have D:w3.1[w.1.size]?=some (.cells (an 0 none 0 0) 34 (0,0)):=(M.block _ (by omega)).trans bj.out;have a7:=M.size;have V:=gQq (nR (w:=w) (q:=none) (n:=0) (c:=0) (F:=fun _=>False) (x:=.mk 0 []) D (aj.out.trans (M.mono (by omega))) (by omega) aW.none (fun _ h=>h.elim));have bb:w3.cell? ⟨w.1.size,0,none⟩=some (.int .i64 0):=aa D 0;have bc:w3.cell? ⟨w.1.size,1,none⟩=some (.slice none 0 0):=aa D 1;have be:=ac D 0;have bi:=ac D 1;have ak:=gQq E;rw[E] at bb bc be bi;clear D M L E a7 Q;unfold an;go_wp2;rw[<-ak.out];refine bodyPost_ret (ap rfl _ _ w.1.size _ _ _ _ rfl V.out.1 Tryz.underlying34 rfl (by kernel_rfl)) rfl ?_;exact⟨rfl,V.out.2.2⟩
   |ok tk=>
    obtain⟨t,j⟩:=tk;rw[O] at Q U;have y:Hid (Sch.rdT (f+1) (l.drop a)=.ok (⟨(o:Int),[t]⟩,j+1)):=U.out;rw[y.out];clear U y O a8;have bp:(o:Int)=6∨(o:Int)=7:=(by omega);obtain⟨bX,bT⟩:∃bX:Int,bX=o:=⟨_,rfl⟩;rw[<-bT] at c0 bp ⊢;clear bT bO b2;rcases bp with rfl | rfl
    all_goals
     go_enter Tryz.func133,Tryz.ntmps133;go_wp2_with fail;rw[<-bk.out];refine Q.out.mono ?_;rintro e w2 ⟨ce,rfl,a9,L⟩;obtain⟨k',ah,n',Z,rfl⟩:=a9.shape;obtain⟨w3,E⟩:∃w3,w3=(w2.alloc (.cells #[.int .i64 k',.slice ah n' Z] 34)).alloc (.cells #[.int .i64 k',.slice ah n' Z] 34):=⟨_,rfl⟩;have a2:Below w2.1.size w2 w3:=(by rw[E];exact gQy.alloc (by simp) _);have M:Below z.1.size z w3:=L.trans (a2.mono L.size);have D:w3.1[w.1.size]?=some (.cells (an 0 none 0 0) 34 (0,0)):=(M.block _ (by omega)).trans bj.out;have b7:=L.size;have a7:w3.1.size=w2.1.size+2:=(by rw[E];simp);have br:w3.1[w2.1.size+1]?=some (.cells (an k' ah n' Z) 34 (0,0)):=(by rw[E];exact bK w2 _ _);have bN:aW w3 (fun k=>z.1.size<=k∧k<w2.1.size) (an k' ah n' Z) t:=a9.under a2 (fun k a6=>a6.2);have V:=gQq (fun b0:Int=>nR (k:=b0) (w:=w) (F:=fun j=>z.1.size<=j∧j<w3.1.size) D (aj.out.trans (M.mono (by omega))) (by omega) (aW.one (k:=b0) (G:=fun j=>z.1.size<=j∧j<w3.1.size) br bN (fun k a6=>⟨a6.1,by omega⟩) (fun a3=>by omega) (by omega)) (fun j b6=>⟨by omega,b6.2⟩));have bb:w3.cell? ⟨w.1.size,0,none⟩=some (.int .i64 0):=aa D 0;have bc:w3.cell? ⟨w.1.size,1,none⟩=some (.slice none 0 0):=aa D 1;have be:=ac D 0;have bi:=ac D 1;have ak:=gQq E;rw[E] at bb bc be bi;clear D M L E a7 Q a2 b7 br bN a9;unfold an;go_wp2;rw[<-ak.out];refine bodyPost_ret (ap rfl _ _ w.1.size _ _ _ _ rfl (V.out _).1 Tryz.underlying34 rfl (by kernel_rfl)) rfl ?_;exact⟨_,by rw[show((a+(j+1):Nat):Int)=(a:Int)+1+(j:Int) by omega];rfl,(V.out _).2.1,(V.out _).2.2⟩
  ·have b1:(l.length:Int)<=(a:Int):=(by omega);have y:Hid (Sch.rdT (f+1) (l.drop a)=.error 30):=(by show _=_;rw[List.drop_eq_nil_of_le (by omega),Sch.rdT]);rw[y.out];clear W ih y a4;go_enter Tryz.func133,Tryz.ntmps133;go_wp2;refine bodyPost_ret (ap rfl _ _ w.1.size _ _ _ _ rfl (am w _) Tryz.underlying34 rfl (by kernel_rfl)) rfl ?_;exact⟨rfl,K.out _⟩
end
section
open Go.RowKit
attribute [local go_sem] af
def zS(w:World)(a:Nat)(r:Except Nat (Col×Nat))(e:Ending)(w':World):Prop:=match r with
 |.error er=>e=.returned (.tuple #[.agg (av ⟨#[]⟩ 0 none 0 0 false 0 0 0 ⟨#[]⟩ none 0 0),.int .i64 0,.int .i64 (er:Nat)])∧Below w.1.size w w'
 |.ok (c,k)=>∃u,e=.returned (.tuple #[.agg u,.int .i64 ((a+k:Nat):Int),.int .i64 0])∧cR w' (fun k=>w.1.size<=k∧k<w'.1.size) u c∧Below w.1.size w w'
theorem dD(w:World):cR w (fun _=>False) (av ⟨#[]⟩ 0 none 0 0 false 0 0 0 ⟨#[]⟩ none 0 0) ⟨⟨#[]⟩,.mk 0 [],false,V0⟩ :=
 ⟨fun _=>False,fun _=>False,0,none,0,0,0,0,0,⟨#[]⟩,none,0,0,rfl,aW.none,aO.none,fun _ h=>h,fun _ h=>h,fun _ h=>h.elim⟩
def pN(w:World)(g:Nat)(n:ByteArray)(k:Int)(s:Value)(h:Bool)(vk vi:Int)(vb:Nat)(vt:ByteArray)(vs:Value):World :=
 ((((((((w.setCell ⟨g,0,none⟩ (.string n)).setCell ⟨g,1,none⟩ (.int .i64 k)).setCell ⟨g,2,none⟩ s).setCell ⟨g,3,none⟩ (.bool h)).setCell ⟨g,4,none⟩ (.int .i64 vk)).setCell ⟨g,5,none⟩ (.int .i64 vi)).setCell ⟨g,6,none⟩ (.float .f64 vb)).setCell ⟨g,7,none⟩ (.string vt)).setCell ⟨g,8,none⟩ vs
theorem bZ{n:ByteArray}{z:OA}{y o:Nat}{h:Bool}{D E:Int}{I:Nat}{J:ByteArray}{M:OA}{L K:Nat}{c:Col}{F:Nat->Prop}(bc:w1.1[w.1.size]?=some (.cells (av ⟨#[]⟩ 0 none 0 0 false 0 0 0 ⟨#[]⟩ none 0 0) 40 (0,0)))(hb:Below w.1.size w w1)(bj:w.1.size+1<=w1.1.size)(bi:cR w1 F (av n k z y o h D E I J M L K) c)(Q:∀j,F j->w.1.size+1<=j∧j<w1.1.size):
  (pN w1 w.1.size n k (.slice z y o) h D E I J (.slice M L K)).1[w.1.size]?=some (.cells (av n k z y o h D E I J M L K) 40 (0,0))∧cR (pN w1 w.1.size n k (.slice z y o) h D E I J (.slice M L K)) (fun j=>w.1.size<=j∧j<(pN w1 w.1.size n k (.slice z y o) h D E I J (.slice M L K)).1.size) (av n k z y o h D E I J M L K) c∧Below w.1.size w (pN w1 w.1.size n k (.slice z y o) h D E I J (.slice M L K)):=by
 have S:=Aside.refl (fun k=>k=w.1.size) w1;have U:=S.setCell (p:=⟨w.1.size,0,none⟩) (.inl rfl) (.string n);have V:=U.setCell (p:=⟨w.1.size,1,none⟩) (.inl rfl) (.int .i64 k);have W:=V.setCell (p:=⟨w.1.size,2,none⟩) (.inl rfl) (.slice z y o);have X:=W.setCell (p:=⟨w.1.size,3,none⟩) (.inl rfl) (.bool h);have Y:=X.setCell (p:=⟨w.1.size,4,none⟩) (.inl rfl) (.int .i64 D);have Z:=Y.setCell (p:=⟨w.1.size,5,none⟩) (.inl rfl) (.int .i64 E);have ab:=Z.setCell (p:=⟨w.1.size,6,none⟩) (.inl rfl) (.float .f64 I);have ah:=ab.setCell (p:=⟨w.1.size,7,none⟩) (.inl rfl) (.string J);have aj:=ah.setCell (p:=⟨w.1.size,8,none⟩) (.inl rfl) (.slice M L K);have O:Aside (fun k=>k=w.1.size) w1 (pN w1 w.1.size n k (.slice z y o) h D E I J (.slice M L K)):=aj;clear S U V W X Y Z ab ah aj;have a1:w1.1[w.1.size]?=some (.cells (av ⟨#[]⟩ 0 none 0 0 false 0 0 0 ⟨#[]⟩ none 0 0) 40 (0,0)):=bc;have a2:(w1.setCell ⟨w.1.size,0,none⟩ (.string n)).1[w.1.size]?=some (.cells (av n 0 none 0 0 false 0 0 0 ⟨#[]⟩ none 0 0) 40 (0,0)):=ai a1 0 (.string n);have a3:((w1.setCell ⟨w.1.size,0,none⟩ (.string n)).setCell ⟨w.1.size,1,none⟩ (.int .i64 k)).1[w.1.size]?=some (.cells (av n k none 0 0 false 0 0 0 ⟨#[]⟩ none 0 0) 40 (0,0)):=ai a2 1 (.int .i64 k);have a4:(((w1.setCell ⟨w.1.size,0,none⟩ (.string n)).setCell ⟨w.1.size,1,none⟩ (.int .i64 k)).setCell ⟨w.1.size,2,none⟩ (.slice z y o)).1[w.1.size]?=some (.cells (av n k z y o false 0 0 0 ⟨#[]⟩ none 0 0) 40 (0,0)):=ai a3 2 (.slice z y o)
 have a5:((((w1.setCell ⟨w.1.size,0,none⟩ (.string n)).setCell ⟨w.1.size,1,none⟩ (.int .i64 k)).setCell ⟨w.1.size,2,none⟩ (.slice z y o)).setCell ⟨w.1.size,3,none⟩ (.bool h)).1[w.1.size]?=some (.cells (av n k z y o h 0 0 0 ⟨#[]⟩ none 0 0) 40 (0,0)):=ai a4 3 (.bool h);have a6:(((((w1.setCell ⟨w.1.size,0,none⟩ (.string n)).setCell ⟨w.1.size,1,none⟩ (.int .i64 k)).setCell ⟨w.1.size,2,none⟩ (.slice z y o)).setCell ⟨w.1.size,3,none⟩ (.bool h)).setCell ⟨w.1.size,4,none⟩ (.int .i64 D)).1[w.1.size]?=some (.cells (av n k z y o h D 0 0 ⟨#[]⟩ none 0 0) 40 (0,0)):=ai a5 4 (.int .i64 D);have a7:((((((w1.setCell ⟨w.1.size,0,none⟩ (.string n)).setCell ⟨w.1.size,1,none⟩ (.int .i64 k)).setCell ⟨w.1.size,2,none⟩ (.slice z y o)).setCell ⟨w.1.size,3,none⟩ (.bool h)).setCell ⟨w.1.size,4,none⟩ (.int .i64 D)).setCell ⟨w.1.size,5,none⟩ (.int .i64 E)).1[w.1.size]?=some (.cells (av n k z y o h D E 0 ⟨#[]⟩ none 0 0) 40 (0,0)):=ai a6 5 (.int .i64 E);have a8:(((((((w1.setCell ⟨w.1.size,0,none⟩ (.string n)).setCell ⟨w.1.size,1,none⟩ (.int .i64 k)).setCell ⟨w.1.size,2,none⟩ (.slice z y o)).setCell ⟨w.1.size,3,none⟩ (.bool h)).setCell ⟨w.1.size,4,none⟩ (.int .i64 D)).setCell ⟨w.1.size,5,none⟩ (.int .i64 E)).setCell ⟨w.1.size,6,none⟩ (.float .f64 I)).1[w.1.size]?=some (.cells (av n k z y o h D E I ⟨#[]⟩ none 0 0) 40 (0,0)):=ai a7 6 (.float .f64 I)
 have a9:((((((((w1.setCell ⟨w.1.size,0,none⟩ (.string n)).setCell ⟨w.1.size,1,none⟩ (.int .i64 k)).setCell ⟨w.1.size,2,none⟩ (.slice z y o)).setCell ⟨w.1.size,3,none⟩ (.bool h)).setCell ⟨w.1.size,4,none⟩ (.int .i64 D)).setCell ⟨w.1.size,5,none⟩ (.int .i64 E)).setCell ⟨w.1.size,6,none⟩ (.float .f64 I)).setCell ⟨w.1.size,7,none⟩ (.string J)).1[w.1.size]?=some (.cells (av n k z y o h D E I J none 0 0) 40 (0,0)):=ai a8 7 (.string J);have bb:(((((((((w1.setCell ⟨w.1.size,0,none⟩ (.string n)).setCell ⟨w.1.size,1,none⟩ (.int .i64 k)).setCell ⟨w.1.size,2,none⟩ (.slice z y o)).setCell ⟨w.1.size,3,none⟩ (.bool h)).setCell ⟨w.1.size,4,none⟩ (.int .i64 D)).setCell ⟨w.1.size,5,none⟩ (.int .i64 E)).setCell ⟨w.1.size,6,none⟩ (.float .f64 I)).setCell ⟨w.1.size,7,none⟩ (.string J)).setCell ⟨w.1.size,8,none⟩ (.slice M L K)).1[w.1.size]?=some (.cells (av n k z y o h D E I J M L K) 40 (0,0)):=ai a9 8 (.slice M L K);refine⟨bb,?_,?_⟩
 ·exact(bi.aside O (fun k a0 be=>by have:=Q k a0;omega)).mono (fun j ak=>⟨by have:=Q j ak;omega,by have:=Q j ak;have:=O.size;omega⟩)
 ·exact hb.trans (O.below (by omega) (fun k a0 be=>by omega))
theorem oD(n:ByteArray):∀(s:List Col) (k:Nat),(Sch.find n s k).isSome=s.any (fun x=>decide (x.name=n))
 | [],_=>rfl
 |c::r,k=>by
  rw[Sch.find,List.any_cons];by_cases h:c.name=n
  ·rw[if_pos h,decide_eq_true h];rfl
  ·rw[if_neg h,decide_eq_false h,oD n r (k+1)];rfl
theorem jU(s:List Col)(ps:OA)(d6:Nat)(p:OA)(l:L8)(c:Nat)(cb:l.length<=140737488351232)(eb:l.length<=c)(a:Nat)(w:World)(e2:s.length*120<=140737488351232)(ew:a<=l.length)(eg:et w ps s)(d9:At w p l):
  Calls Tryz.prog 85 #[.slice ps s.length d6,.slice p l.length c,.int .i64 a] w (zS w a (Sch.rdC s (l.drop a))):=by
 obtain⟨R,c5⟩:∃R,R=Sch.rdC s (l.drop a):=⟨_,rfl⟩;have b2:Hid (R=Sch.rdC s (l.drop a)):=c5;rw[<-c5];clear c5;obtain⟨y,b5⟩:∃y,y=(w.alloc (.cells #[.string ⟨#[]⟩,.int .i64 0,.slice none 0 0,.bool false,.int .i64 0,.int .i64 0,.float .f64 0,.string ⟨#[]⟩,.slice none 0 0] 40)).alloc (.cells #[.string ⟨#[]⟩,.int .i64 0,.slice none 0 0,.bool false,.int .i64 0,.int .i64 0,.float .f64 0,.string ⟨#[]⟩,.slice none 0 0] 40):=⟨_,rfl⟩;have S:Hid (Below w.1.size w y):=by rw[b5];exact gQy.alloc (by simp) _
 have e9:y.1.size=w.1.size+2:=by rw[b5];simp
 have bc:Hid (y.1[w.1.size]?=some (.cells (av ⟨#[]⟩ 0 none 0 0 false 0 0 0 ⟨#[]⟩ none 0 0) 40 (0,0))):=by show _=_;rw[b5];exact aV w _ _
 have bq:Hid (y.1[w.1.size+1]?=some (.cells (av ⟨#[]⟩ 0 none 0 0 false 0 0 0 ⟨#[]⟩ none 0 0) 40 (0,0))):=by show _=_;rw[b5];exact bK w _ _
 have d4:=gQq b5;have en:=gQq (eg.on S.out);have b7:=gQq (d9.on S.out);have d2:=gQq (gQ p c l a cb y b7.out);clear b5 eg d9;go_enter Tryz.func85,Tryz.ntmps85;go_wp2_with fail;rw[<-d4.out];refine d2.out.mono ?_;rintro e w1 ⟨rfl,a9⟩;rw[a9];clear a9 w1 d2 d4;cases hn:Sch.num (l.drop a) with
 |error er=>
  have be:=ev hn;have d8:((er:Int) != 0)=true:=by rw[bne_iff_ne];omega
  have K:Hid (R=.error er):=by show _=_;rw[b2.out,Sch.rdC,hn]
  simp only[gC];clear hn b2 be;have o:y.1[w.1.size]?=some (.cells (av ⟨#[]⟩ 0 none 0 0 false 0 0 0 ⟨#[]⟩ none 0 0) 40 (0,0)):=((Below.refl y.1.size y).block _ (by omega)).trans bc.out;have I:y.1[w.1.size+1]?=some (.cells (av ⟨#[]⟩ 0 none 0 0 false 0 0 0 ⟨#[]⟩ none 0 0) 40 (0,0)):=((Below.refl y.1.size y).block _ (by omega)).trans bq.out;obtain⟨U,V,W,X,Y,Z,ab,ah,aj⟩:=cQ9 o;have ak:=ac o 0;have a0:=ac o 1;have a1:=ac o 2;have a2:=ac o 3;have a3:=ac o 4;have a4:=ac o 5;have a5:=ac o 6;have a6:=ac o 7;have a7:=ac o 8;obtain⟨bj,bk,bn,bp,n4,n5,n6,n7,n8⟩:=cQ9 I;have E:=gQq (bZ (w:=w) (F:=fun _=>False) (c:=⟨⟨#[]⟩,.mk 0 [],false,V0⟩) o (S.out.trans ((Below.refl y.1.size y).mono (by omega))) (by have:=(Below.refl y.1.size y).size;omega) (dD _) (fun _ h=>h.elim));clear o I;go_wp2;refine bodyPost_ret (ap rfl _ _ w.1.size _ _ _ _ rfl E.out.1 Tryz.underlying40 rfl (by kernel_rfl)) rfl ?_;rw[K.out];exact⟨rfl,E.out.2.2⟩
 |ok nk=>
  obtain⟨n,eh⟩:=nk;simp only[gC];rw[show((a+eh:Nat):Int)=(a:Int)+(eh:Int) by omega];by_cases cr:n=0
  ·have d8:((n:Int)==0)=true:=cZ (by omega);have K:Hid (R=.error 70):=(by show _=_;rw[b2.out,Sch.rdC,hn];dsimp only;rw[if_pos cr]);clear hn b2 cr;have o:y.1[w.1.size]?=some (.cells (av ⟨#[]⟩ 0 none 0 0 false 0 0 0 ⟨#[]⟩ none 0 0) 40 (0,0)):=((Below.refl y.1.size y).block _ (by omega)).trans bc.out;have I:y.1[w.1.size+1]?=some (.cells (av ⟨#[]⟩ 0 none 0 0 false 0 0 0 ⟨#[]⟩ none 0 0) 40 (0,0)):=((Below.refl y.1.size y).block _ (by omega)).trans bq.out;obtain⟨U,V,W,X,Y,Z,ab,ah,aj⟩:=cQ9 o;have ak:=ac o 0;have a0:=ac o 1;have a1:=ac o 2;have a2:=ac o 3;have a3:=ac o 4;have a4:=ac o 5;have a5:=ac o 6;have a6:=ac o 7;have a7:=ac o 8;obtain⟨bj,bk,bn,bp,n4,n5,n6,n7,n8⟩:=cQ9 I;have E:=gQq (bZ (w:=w) (F:=fun _=>False) (c:=⟨⟨#[]⟩,.mk 0 [],false,V0⟩) o (S.out.trans ((Below.refl y.1.size y).mono (by omega))) (by have:=(Below.refl y.1.size y).size;omega) (dD _) (fun _ h=>h.elim));clear o I;go_wp2;refine bodyPost_ret (ap rfl _ _ w.1.size _ _ _ _ rfl E.out.1 Tryz.underlying40 rfl (by kernel_rfl)) rfl ?_;rw[K.out];exact⟨rfl,E.out.2.2⟩
  have d8:((n:Int)==0)=false:=bd (by omega)
  have ci:Hid (R=match Sch.text 16 70 (l.drop a) with
    |.error e=>.error e
    |.ok (s_1,j)=>if Sch.name s_1=false then .error 70 else if s.any (fun x=>decide (x.name=s_1)) then .error 71 else match Sch.rdT 4 ((l.drop a).drop j) with
     |.error e=>.error e
     |.ok (t,z)=>match Sch.bit ((l.drop a).drop (j+z)) with
      |.error e=>.error e
      |.ok (h,D)=>if h=0 then .ok (⟨s_1,t,false,V0⟩,j+z+D) else match Sch.rdV t ((l.drop a).drop (j+z+D)) with
       |.error e=>.error e
       |.ok (v,L)=>.ok (⟨s_1,t,true,v⟩,j+z+D+L)):=by
   show _=_;rw[b2.out,Sch.rdC,hn];exact if_neg cr
  have d3:=gQq (nL p l c a 16 70 cb eb ew (by omega) y b7.out);clear hn b2 cr;go_wp2_with fail;refine d3.out.mono ?_;rintro e w1 ⟨rfl,a9⟩;rw[a9];clear a9 w1 d3;cases hnm:Sch.text 16 70 (l.drop a) with
  |error er=>
   have be:=gK (by decide) hnm;have b4:((er:Int) != 0)=true:=(by rw[bne_iff_ne];omega);have K:Hid (R=.error er):=(by show _=_;rw[ci.out,hnm]);simp only[jG];clear hnm ci be;have o:y.1[w.1.size]?=some (.cells (av ⟨#[]⟩ 0 none 0 0 false 0 0 0 ⟨#[]⟩ none 0 0) 40 (0,0)):=((Below.refl y.1.size y).block _ (by omega)).trans bc.out;have I:y.1[w.1.size+1]?=some (.cells (av ⟨#[]⟩ 0 none 0 0 false 0 0 0 ⟨#[]⟩ none 0 0) 40 (0,0)):=((Below.refl y.1.size y).block _ (by omega)).trans bq.out;obtain⟨U,V,W,X,Y,Z,ab,ah,aj⟩:=cQ9 o;have ak:=ac o 0;have a0:=ac o 1;have a1:=ac o 2;have a2:=ac o 3;have a3:=ac o 4;have a4:=ac o 5;have a5:=ac o 6;have a6:=ac o 7;have a7:=ac o 8;obtain⟨bj,bk,bn,bp,n4,n5,n6,n7,n8⟩:=cQ9 I;have E:=gQq (bZ (w:=w) (F:=fun _=>False) (c:=⟨⟨#[]⟩,.mk 0 [],false,V0⟩) o (S.out.trans ((Below.refl y.1.size y).mono (by omega))) (by have:=(Below.refl y.1.size y).size;omega) (dD _) (fun _ h=>h.elim));clear o I;go_wp2;refine bodyPost_ret (ap rfl _ _ w.1.size _ _ _ _ rfl E.out.1 Tryz.underlying40 rfl (by kernel_rfl)) rfl ?_;rw[K.out];exact⟨rfl,E.out.2.2⟩
  |ok nj=>
   obtain⟨J,j⟩:=nj;simp only[jG];have ez:a+j<=l.length:=by
    obtain⟨-,-,e7,r,eu⟩:=Sch.text_ok hnm;have cd:=congrArg List.length eu;have fe:J.data.toList.length=J.size:=(by rw[Array.length_toList];rfl);rw[List.length_drop,List.length_append,List.length_append] at cd;omega
   have b9:Hid (R=if Sch.name J=false then .error 70 else if s.any (fun x=>decide (x.name=J)) then .error 71 else match Sch.rdT 4 (l.drop (a+j)) with
     |.error e=>.error e
     |.ok (t,z)=>match Sch.bit (l.drop (a+j+z)) with
      |.error e=>.error e
      |.ok (h,D)=>if h=0 then .ok (⟨J,t,false,V0⟩,j+z+D) else match Sch.rdV t (l.drop (a+j+z+D)) with
       |.error e=>.error e
       |.ok (v,L)=>.ok (⟨J,t,true,v⟩,j+z+D+L)):=by
    show _=_;rw[ci.out,hnm];simp only[List.drop_drop,Nat.add_assoc]
   rw[show((a+j:Nat):Int)=(a:Int)+(j:Int) by omega];clear hnm ci;obtain⟨dd,ec⟩:∃dd,dd=Sch.name J:=⟨_,rfl⟩;have cv:=gQq (tP J y);rw[<-ec] at cv b9;clear ec;go_wp2_with fail;refine cv.out.mono ?_;rintro e w1 ⟨rfl,a9⟩;rw[a9];clear a9 w1 cv;cases dd with
   |false=>
    have K:Hid (R=.error 70):=b9.out;clear b9;have o:y.1[w.1.size]?=some (.cells (av ⟨#[]⟩ 0 none 0 0 false 0 0 0 ⟨#[]⟩ none 0 0) 40 (0,0)):=((Below.refl y.1.size y).block _ (by omega)).trans bc.out;have I:y.1[w.1.size+1]?=some (.cells (av ⟨#[]⟩ 0 none 0 0 false 0 0 0 ⟨#[]⟩ none 0 0) 40 (0,0)):=((Below.refl y.1.size y).block _ (by omega)).trans bq.out;obtain⟨U,V,W,X,Y,Z,ab,ah,aj⟩:=cQ9 o;have ak:=ac o 0;have a0:=ac o 1;have a1:=ac o 2;have a2:=ac o 3;have a3:=ac o 4;have a4:=ac o 5;have a5:=ac o 6;have a6:=ac o 7;have a7:=ac o 8;obtain⟨bj,bk,bn,bp,n4,n5,n6,n7,n8⟩:=cQ9 I;have E:=gQq (bZ (w:=w) (F:=fun _=>False) (c:=⟨⟨#[]⟩,.mk 0 [],false,V0⟩) o (S.out.trans ((Below.refl y.1.size y).mono (by omega))) (by have:=(Below.refl y.1.size y).size;omega) (dD _) (fun _ h=>h.elim));clear o I;go_wp2;refine bodyPost_ret (ap rfl _ _ w.1.size _ _ _ _ rfl E.out.1 Tryz.underlying40 rfl (by kernel_rfl)) rfl ?_;rw[K.out];exact⟨rfl,E.out.2.2⟩
   |true=>
    have cj:=gQq (b9.out.trans (if_neg (by decide)));have d1:=gQq (tQ s J ps d6 y e2 en.out);have b6:=oD J s 0;clear b9;go_wp2_with fail;refine d1.out.mono ?_;rintro e w2 ⟨rfl,c6⟩;have br:=gQq c6;have fa:=c6.size;clear d1 c6;cases hfd:Sch.find J s 0 with
    |some kf=>
     rw[hfd] at b6;have K:Hid (R=.error 71):=(by show _=_;rw[cj.out,if_pos (by rw[<-b6];rfl)]);simp only[km];clear cj hfd b6;have o:w2.1[w.1.size]?=some (.cells (av ⟨#[]⟩ 0 none 0 0 false 0 0 0 ⟨#[]⟩ none 0 0) 40 (0,0)):=(br.out.block _ (by omega)).trans bc.out;have I:w2.1[w.1.size+1]?=some (.cells (av ⟨#[]⟩ 0 none 0 0 false 0 0 0 ⟨#[]⟩ none 0 0) 40 (0,0)):=(br.out.block _ (by omega)).trans bq.out;obtain⟨U,V,W,X,Y,Z,ab,ah,aj⟩:=cQ9 o;have ak:=ac o 0;have a0:=ac o 1;have a1:=ac o 2;have a2:=ac o 3;have a3:=ac o 4;have a4:=ac o 5;have a5:=ac o 6;have a6:=ac o 7;have a7:=ac o 8;obtain⟨bj,bk,bn,bp,n4,n5,n6,n7,n8⟩:=cQ9 I;have E:=gQq (bZ (w:=w) (F:=fun _=>False) (c:=⟨⟨#[]⟩,.mk 0 [],false,V0⟩) o (S.out.trans (br.out.mono (by omega))) (by have:=br.out.size;omega) (dD _) (fun _ h=>h.elim));clear o I;go_wp2;refine bodyPost_ret (ap rfl _ _ w.1.size _ _ _ _ rfl E.out.1 Tryz.underlying40 rfl (by kernel_rfl)) rfl ?_;rw[K.out];exact⟨rfl,E.out.2.2⟩
    |none=>
     rw[hfd] at b6;have ck:=gQq (cj.out.trans (if_neg (by rw[<-b6];decide)));simp only[km];clear cj hfd b6;have b3:=mp p l c cb 4 (a+j) w2 (by omega) ez (b7.out.on br.out);rw[show((a+j:Nat):Int)=(a:Int)+(j:Int) by omega] at b3
     replace b3:=gQq b3
     go_wp2_with fail;refine b3.out.mono ?_;intro e w3 cs;cases hty:Sch.rdT 4 (l.drop (a+j)) with
     |error er=>
      rw[hty] at cs;obtain⟨rfl,bs⟩:=cs;have be:=jr 4 _ er hty;have b4:((er:Int) != 0)=true:=(by rw[bne_iff_ne];omega);have K:Hid (R=.error er):=(by show _=_;rw[ck.out,hty]);have b8:=gQq (br.out.trans (bs.mono (by omega)));have e3:=bs.size;unfold an;clear hty be ck b3 bs;obtain⟨bb,bi⟩:∃bb,bb=w3.alloc (.cells #[.int .i64 0,.slice none 0 0] 34):=⟨_,rfl⟩;have a8:Below y.1.size y bb:=(by rw[bi];exact b8.out.alloc b8.out.size _);have cy:=gQq bi;have o:bb.1[w.1.size]?=some (.cells (av ⟨#[]⟩ 0 none 0 0 false 0 0 0 ⟨#[]⟩ none 0 0) 40 (0,0)):=(a8.block _ (by omega)).trans bc.out;have I:bb.1[w.1.size+1]?=some (.cells (av ⟨#[]⟩ 0 none 0 0 false 0 0 0 ⟨#[]⟩ none 0 0) 40 (0,0)):=(a8.block _ (by omega)).trans bq.out;obtain⟨U,V,W,X,Y,Z,ab,ah,aj⟩:=cQ9 o;have ak:=ac o 0;have a0:=ac o 1;have a1:=ac o 2;have a2:=ac o 3;have a3:=ac o 4;have a4:=ac o 5;have a5:=ac o 6;have a6:=ac o 7;have a7:=ac o 8;obtain⟨bj,bk,bn,bp,n4,n5,n6,n7,n8⟩:=cQ9 I;have E:=gQq (bZ (w:=w) (F:=fun _=>False) (c:=⟨⟨#[]⟩,.mk 0 [],false,V0⟩) o (S.out.trans (a8.mono (by omega))) (by have:=a8.size;omega) (dD _) (fun _ h=>h.elim));clear o I;rw[bi] at U V W X Y Z ab ah aj ak a0 a1 a2 a3 a4 a5 a6 a7 bj bk bn bp n4 n5 n6 n7 n8;clear bi a8;go_wp2;rw[<-cy.out];refine bodyPost_ret (ap rfl _ _ w.1.size _ _ _ _ rfl E.out.1 Tryz.underlying40 rfl (by kernel_rfl)) rfl ?_;rw[K.out];exact⟨rfl,E.out.2.2⟩
     |ok tj=>
      obtain⟨M,z⟩:=tj;rw[hty] at cs;obtain⟨fg,rfl,db,bs⟩:=cs;obtain⟨bO,b0,bX,bT,rfl⟩:=db.shape;obtain⟨e4,⟨ff,ee⟩,ef,-⟩:=Sch.rdT_ok 4 _ _ _ (by omega) hty;have eC:a+j+z<=l.length:=by
       have cd:=congrArg List.length ee;rw[List.length_drop,List.length_append] at cd;omega
      have cn:Hid (R=match Sch.bit (l.drop (a+j+z)) with
       |.error e=>.error e
       |.ok (h,D)=>if h=0 then .ok (⟨J,M,false,V0⟩,j+z+D) else match Sch.rdV M (l.drop (a+j+z+D)) with
        |.error e=>.error e
        |.ok (v,L)=>.ok (⟨J,M,true,v⟩,j+z+D+L)):=by show _=_;rw[ck.out,hty]
      have b8:=gQq (br.out.trans (bs.mono (by omega)));have e3:=bs.size;have cw:=gQq db
      -- the type's own block
      obtain⟨w4,ce⟩:∃w4,w4=w3.alloc (.cells #[.int .i64 bO,.slice b0 bX bT] 34):=⟨_,rfl⟩;have cg:Hid (Below w3.1.size w3 w4):=(by rw[ce];exact gQy);have fb:w4.1.size=w3.1.size+1:=(by rw[ce];simp);have Q:=gQq (b8.out.trans (cg.out.mono b8.out.size));have el:Hid (w4.cell? ⟨w3.1.size,0,none⟩=some (.int .i64 bO)∧w4.cell? ⟨w3.1.size,1,none⟩=some (.slice b0 bX bT)):=(by rw[ce];exact⟨by simp,by simp⟩);have d5:=gQq ce;have c8:=mq p l c (a+j+z) cb eC w4 (b7.out.on Q.out);have d7:((a+j+z:Nat):Int)=(a:Int)+(j:Int)+(z:Int):=(by omega);rw[d7] at c8;have d0:=gQq c8;have ep:((a+j:Nat):Int)+(z:Int)=(a:Int)+(j:Int)+(z:Int):=(by omega);rw[show((a+j+z:Nat):Int)=(a:Int)+(j:Int)+(z:Int) by omega];unfold an;clear hty db bs e4 ee ck b3 ce c8 d7 ep;go_wp2_with fail;rw[<-d5.out];refine d0.out.mono ?_;rintro e w5 ⟨rfl,a9⟩;rw[a9];clear a9 w5 d0 d5;cases hbt:Sch.bit (l.drop (a+j+z)) with
      |error er=>
       have be:=fW hbt;have b4:((er:Int) != 0)=true:=(by rw[bne_iff_ne];omega);have K:Hid (R=.error er):=(by show _=_;rw[cn.out,hbt]);simp only[kC];clear hbt be cn;have o:w4.1[w.1.size]?=some (.cells (av ⟨#[]⟩ 0 none 0 0 false 0 0 0 ⟨#[]⟩ none 0 0) 40 (0,0)):=(Q.out.block _ (by omega)).trans bc.out;have I:w4.1[w.1.size+1]?=some (.cells (av ⟨#[]⟩ 0 none 0 0 false 0 0 0 ⟨#[]⟩ none 0 0) 40 (0,0)):=(Q.out.block _ (by omega)).trans bq.out;obtain⟨U,V,W,X,Y,Z,ab,ah,aj⟩:=cQ9 o;have ak:=ac o 0;have a0:=ac o 1;have a1:=ac o 2;have a2:=ac o 3;have a3:=ac o 4;have a4:=ac o 5;have a5:=ac o 6;have a6:=ac o 7;have a7:=ac o 8;obtain⟨bj,bk,bn,bp,n4,n5,n6,n7,n8⟩:=cQ9 I;have E:=gQq (bZ (w:=w) (F:=fun _=>False) (c:=⟨⟨#[]⟩,.mk 0 [],false,V0⟩) o (S.out.trans (Q.out.mono (by omega))) (by have:=Q.out.size;omega) (dD _) (fun _ h=>h.elim));clear o I;go_wp2;refine bodyPost_ret (ap rfl _ _ w.1.size _ _ _ _ rfl E.out.1 Tryz.underlying40 rfl (by kernel_rfl)) rfl ?_;rw[K.out];exact⟨rfl,E.out.2.2⟩
      |ok hj=>
       obtain⟨cq,D⟩:=hj;have c9:=Sch.bit_ok hbt;have e8:=c9.1;have e0:a+j+z+D<=l.length:=by
        obtain⟨-,e6,r,e1⟩:=c9;have cd:=congrArg List.length e1;rw[List.length_drop,List.length_cons] at cd;omega
       have co:Hid (R=if cq=0 then .ok (⟨J,M,false,V0⟩,j+z+D) else match Sch.rdV M (l.drop (a+j+z+D)) with
        |.error e=>.error e
        |.ok (v,L)=>.ok (⟨J,M,true,v⟩,j+z+D+L)):=by show _=_;rw[cn.out,hbt]
       simp only[kC];rw[show((a+j+z+D:Nat):Int)=(a:Int)+(j:Int)+(z:Int)+(D:Int) by omega];clear hbt c9 cn;obtain⟨de,df⟩:=el.out;have o:w4.1[w.1.size]?=some (.cells (av ⟨#[]⟩ 0 none 0 0 false 0 0 0 ⟨#[]⟩ none 0 0) 40 (0,0)):=(Q.out.block _ (by omega)).trans bc.out;by_cases da:cq=0
       ·have b4:((cq:Int)==0)=true:=cZ (by omega);have K:Hid (R=.ok (⟨J,M,false,V0⟩,j+z+D)):=by show _=_;rw[co.out,if_pos da]
        have cc:cR w4 (fun k=>w2.1.size<=k∧k<w3.1.size) (av J bO b0 bX bT false 0 0 0 ⟨#[]⟩ none 0 0) ⟨J,M,false,V0⟩ :=
         ⟨fun k=>w2.1.size<=k∧k<w3.1.size,fun _=>False,bO,b0,bX,bT,0,0,0,⟨#[]⟩,none,0,0,rfl,cw.out.under cg.out (fun k O=>O.2),aO.none,fun _ h=>h,fun _ h=>h.elim,fun _ _ h=>h⟩
        obtain⟨U,V,W,X,Y,Z,ab,ah,aj⟩:=cQ9 o;have ak:=ac o 0;have a0:=ac o 1;have a1:=ac o 2;have a2:=ac o 3;have a3:=ac o 4;have a4:=ac o 5;have a5:=ac o 6;have a6:=ac o 7;have a7:=ac o 8;have E:=gQq (bZ (w:=w) o (S.out.trans (Q.out.mono (by omega))) (by omega) cc (fun k O=>⟨by omega,by omega⟩));clear o cc co da;go_wp2;refine bodyPost_ret (ap rfl _ _ w.1.size _ _ _ _ rfl E.out.1 Tryz.underlying40 rfl (by kernel_rfl)) rfl ?_;rw[K.out];exact⟨_,by rw[show((a+(j+z+D):Nat):Int)=(a:Int)+(j:Int)+(z:Int)+(D:Int) by omega];rfl,E.out.2.1,E.out.2.2⟩
       ·have b4:((cq:Int)==0)=false:=bd (by omega);have cu:=nK p l c cb eb M 1 (a+j+z+D) w4 (an bO b0 bX bT) ef ((cw.out.lies).on cg.out) e0 (b7.out.on Q.out);rw[show((a+j+z+D:Nat):Int)=(a:Int)+(j:Int)+(z:Int)+(D:Int) by omega] at cu;unfold an at cu;have cx:=gQq cu;clear cu da
        have cp:Hid (R=match Sch.rdV M (l.drop (a+j+z+D)) with
         |.error e=>.error e
         |.ok (v,L)=>.ok (⟨J,M,true,v⟩,j+z+D+L)):=by
         show _=_;rw[co.out];exact if_neg (by intro ea;rw[ea] at b4;simp at b4)
        clear co o;go_wp2_with fail;refine cx.out.mono ?_;intro e w5 ct;cases hvr:Sch.rdV M (l.drop (a+j+z+D)) with
        |error er=>
         rw[hvr] at ct;obtain⟨rfl,bN⟩:=ct;have be:=mr M 1 _ er ef hvr;have e5:((er:Int) != 0)=true:=(by rw[bne_iff_ne];omega);have K:Hid (R=.error er):=(by show _=_;rw[cp.out,hvr]);have ds:=gQq (Q.out.trans (bN.mono Q.out.size));have ed:=bN.size;unfold cells5;clear hvr be cp cx bN de df;obtain⟨bb,bi⟩:∃bb,bb=w5.alloc (.cells #[.int .i64 0,.int .i64 0,.float .f64 0,.string ⟨#[]⟩,.slice none 0 0] 38):=⟨_,rfl⟩;have a8:Below y.1.size y bb:=(by rw[bi];exact ds.out.alloc ds.out.size _);have cy:=gQq bi;have o:bb.1[w.1.size]?=some (.cells (av ⟨#[]⟩ 0 none 0 0 false 0 0 0 ⟨#[]⟩ none 0 0) 40 (0,0)):=(a8.block _ (by omega)).trans bc.out;have I:bb.1[w.1.size+1]?=some (.cells (av ⟨#[]⟩ 0 none 0 0 false 0 0 0 ⟨#[]⟩ none 0 0) 40 (0,0)):=(a8.block _ (by omega)).trans bq.out;obtain⟨U,V,W,X,Y,Z,ab,ah,aj⟩:=cQ9 o;have ak:=ac o 0;have a0:=ac o 1;have a1:=ac o 2;have a2:=ac o 3;have a3:=ac o 4;have a4:=ac o 5;have a5:=ac o 6;have a6:=ac o 7;have a7:=ac o 8;obtain⟨bj,bk,bn,bp,n4,n5,n6,n7,n8⟩:=cQ9 I;have E:=gQq (bZ (w:=w) (F:=fun _=>False) (c:=⟨⟨#[]⟩,.mk 0 [],false,V0⟩) o (S.out.trans (a8.mono (by omega))) (by have:=a8.size;omega) (dD _) (fun _ h=>h.elim));clear o I;rw[bi] at U V W X Y Z ab ah aj ak a0 a1 a2 a3 a4 a5 a6 a7 bj bk bn bp n4 n5 n6 n7 n8;clear bi a8;go_wp2;rw[<-cy.out];refine bodyPost_ret (ap rfl _ _ w.1.size _ _ _ _ rfl E.out.1 Tryz.underlying40 rfl (by kernel_rfl)) rfl ?_;rw[K.out];exact⟨rfl,E.out.2.2⟩
        |ok vj=>
         obtain⟨ei,L⟩:=vj;rw[hvr] at ct;obtain⟨fh,rfl,dc,bN⟩:=ct;obtain⟨dk,dj,dh,dr,dp,dn,di,rfl⟩:=dc.shape;have K:Hid (R=.ok (⟨J,M,true,ei⟩,j+z+D+L)):=(by show _=_;rw[cp.out,hvr]);rw[show((a+j+z+D+L:Nat):Int)=(a:Int)+(j:Int)+(z:Int)+(D:Int)+(L:Int) by omega];have ed:=bN.size;obtain⟨b1,cf⟩:∃b1,b1=w5.alloc (.cells #[.int .i64 dk,.int .i64 dj,.float .f64 dh,.string dr,.slice dp dn di] 38):=⟨_,rfl⟩;have c7:Below w5.1.size w5 b1:=(by rw[cf];exact gQy);have ca:Below w4.1.size w4 b1:=bN.trans (c7.mono ed);have fc:b1.1.size=w5.1.size+1:=(by rw[cf];simp);have dv:=gQq (Q.out.trans (ca.mono Q.out.size));have o:b1.1[w.1.size]?=some (.cells (av ⟨#[]⟩ 0 none 0 0 false 0 0 0 ⟨#[]⟩ none 0 0) 40 (0,0)):=(dv.out.block _ (by omega)).trans bc.out
         have cc:cR b1 (fun k=>w2.1.size<=k∧k<w5.1.size) (av J bO b0 bX bT true dk dj dh dr dp dn di) ⟨J,M,true,ei⟩ :=
          ⟨fun k=>w2.1.size<=k∧k<w3.1.size,fun k=>w4.1.size<=k∧k<w5.1.size,bO,b0,bX,bT,dk,dj,dh,dr,dp,dn,di,rfl,(cw.out.under cg.out (fun k O=>O.2)).under ca (fun k O=>by omega),dc.under c7 (fun k O=>O.2),fun k O=>⟨O.1,by omega⟩,fun k O=>⟨by omega,O.2⟩,fun k O ea=>by omega⟩
         have u0:=ae ca de;have u1:=ae ca df;obtain⟨U,V,W,X,Y,Z,ab,ah,aj⟩:=cQ9 o;have ak:=ac o 0;have a0:=ac o 1;have a1:=ac o 2;have a2:=ac o 3;have a3:=ac o 4;have a4:=ac o 5;have a5:=ac o 6;have a6:=ac o 7;have a7:=ac o 8;have E:=gQq (bZ (w:=w) o (S.out.trans (dv.out.mono (by omega))) (by omega) cc (fun k O=>⟨by omega,by omega⟩));have em:=gQq cf;rw[cf] at u0 u1 U V W X Y Z ab ah aj ak a0 a1 a2 a3 a4 a5 a6 a7;unfold cells5;clear o cc cp hvr dc bN c7 ca cf cx de df;go_wp2;rw[<-em.out];refine bodyPost_ret (ap rfl _ _ w.1.size _ _ _ _ rfl E.out.1 Tryz.underlying40 rfl (by kernel_rfl)) rfl ?_;rw[K.out];exact⟨_,by rw[show((a+(j+z+D+L):Nat):Int)=(a:Int)+(j:Int)+(z:Int)+(D:Int)+(L:Int) by omega];rfl,E.out.2.1,E.out.2.2⟩
end
section
open Go.RowKit
attribute [local go_sem] af
def yU(w:World)(r:Except Nat (List Col))(e:Ending)(w':World):Prop:=match r with
 |.error er=>e=.returned (.tuple #[.agg #[.slice none 0 0],.int .i64 (er:Nat)])∧Below w.1.size w w'
 |.ok s=>∃u,e=.returned (.tuple #[.agg u,.int .i64 0])∧fv w' w.1.size u s∧Below w.1.size w w'
def shift(n:Nat):Except Nat (List Col×Nat)->Except Nat (List Col×Nat)
 |.error e=>.error e
 |.ok (s,k)=>.ok (s,n+k)
def np(m:Nat)(s:List Col)(b:L8):Except Nat (Col×Nat)->Except Nat (List Col×Nat)
 |.error e=>.error e
 |.ok (c,j)=>shift j (Sch.rdCs m (s++[c]) (b.drop j))
theorem iF(m:Nat)(s:List Col)(b:L8):Sch.rdCs (m+1) s b=np m s b (Sch.rdC s b):=by
 rw[Sch.rdCs];cases Sch.rdC s b with
 |error e=>rfl
 |ok p=>
  obtain⟨c,j⟩:=p;rw[np];dsimp only;cases Sch.rdCs m (s++[c]) (b.drop j) with
  |error e=>rfl
  |ok q=>rfl
theorem iU(n j:Nat)(r:Except Nat (List Col×Nat)):shift n (shift j r)=shift (n+j) r:=by
 cases r with
 |error e=>rfl
 |ok p=>simp[shift,Nat.add_assoc]
theorem wN{b:L8}{e:Nat}(h:Sch.rdC s b=.error e):e≠0:=by
 rw[Sch.rdC] at h;split at h
 ·next e' he=>injection h with h;rw[<-h];exact ev he
 ·split at h
  ·injection h with h;omega
  ·split at h
   ·next e' he=>injection h with h;rw[<-h];exact gK (by decide) he
   ·split at h
    ·injection h with h;omega
    ·split at h
     ·injection h with h;omega
     ·split at h
      ·next e' he=>injection h with h;rw[<-h];exact jr 4 _ _ he
      ·next t j2 ht=>
       split at h
       ·next e' he=>injection h with h;rw[<-h];exact fW he
       ·split at h
        ·cases h
        ·split at h
         ·next e' he=>
          injection h with h;rw[<-h];exact mr t 1 _ _ (Sch.rdT_ok 4 _ _ _ (by omega) ht).2.2.1 he
         ·cases h
structure ip(w:World)(s:List Col)(v:Value)(wr:World):Prop where
 built:∃us Fs,aT wr (w.1.size+1) v s.length us Fs s
 b0:wr.1[w.1.size]?=some (.cells #[.slice none 0 0] 29 (0,0))
 below:Below w.1.size w wr
 size:w.1.size+1<=wr.1.size
theorem kS(w:World):ip w [] (.slice none 0 0) (w.alloc (.cells #[.slice none 0 0] 29)) :=
 ⟨⟨_,_,gG _ _⟩,am w _,(Below.refl _ w).alloc gQx _,by simp⟩
theorem ip.next{wr:World}{v:Value}{F:Nat->Prop}{cap:Nat}{us:Nat->AV}{Fs:Nat->Nat->Prop}{D:Col}(h:ip w s v wr)(z:aT wr (w.1.size+1) v s.length us Fs s)(hb:Below wr.1.size wr w2)(S:cR w2 F u D)(E:∀k,F k->wr.1.size<=k∧k<w2.1.size)(o:Below w2.1.size w2 w3)(M:w4.ownsRow (w.1.size+1) 40 9 (.slice (some ⟨g,0,none⟩) (s.length+1) cap) (s.length+1) (flat us s.length++u.toList))(y:w3.grownBy w4 v.ownBlock)(L:v.ownBlock=some g∨g=w3.1.size):
  ip w (s++[D]) (.slice (some ⟨g,0,none⟩) (s.length+1) cap) w4:=by
 have O:=h.size;have U:=hb.size;have V:=o.size;have Q:=z.step hb S E o O M y L;have I:Below w.1.size w w4:=((h.below.trans (hb.mono (by omega))).trans (o.mono (by omega))).grown y (by omega) (fun k K=>by have:=(z.lt k K).1;omega);refine⟨⟨(fun n=>if n=s.length then u else us n),(fun n=>if n=s.length then F else Fs n),?_⟩,?_,I,?_⟩
 ·rw[List.length_append,List.length_singleton];exact Q
 ·rw[y.block _ (by omega) (fun J=>by have:=(z.lt _ J.symm).1;omega),o.block _ (by omega),hb.block _ (by omega)];exact h.b0
 ·have:=y.size;omega
theorem pK(p:OA)(l:L8)(c:Nat)(cc:l.length<=140737488351232)(c6:l.length<=c)(w:World)(b9:At w p l):
    Calls Tryz.prog 49 #[.slice p l.length c] w (yU w (Sch.read l)):=by
  obtain⟨R,bb⟩:∃R,R=Sch.read l:=⟨_,rfl⟩;have L:Hid (R=Sch.read l):=bb;rw[<-bb];clear bb;have S:Hid (∀o,Below w.1.size w (w.alloc o)):=fun o=>gQy;have b3:=gQq b9;clear b9;by_cases J:1024<l.length
  · have cu:(1024:Int)<(l.length:Int):=(by omega);have HE:Hid (R=.error 2):=(by show _=_;rw[L.out,Sch.read,if_pos J]);clear L J;go_enter Tryz.func49,Tryz.ntmps49;go_wp2;refine bodyPost_ret (aw rfl _ _ w.1.size _ _ _ _ rfl (am w _) Tryz.underlying29 rfl (by kernel_rfl)) rfl ?_;rw[HE.out];exact⟨rfl,S.out _⟩
  have cu:¬(1024:Int)<(l.length:Int):=by omega
  have E:=gQq (gQ p c l 0 cc (w.alloc (.cells #[.slice none 0 0] 29)) (b3.out.on (S.out _)));rw[List.drop_zero] at E;cases hn:Sch.num l with
  |error er=>
    have be:=ev hn;have b7:((er:Int) != 0)=true:=(by rw[bne_iff_ne];omega);have HE:Hid (R=.error er):=(by show _=_;rw[L.out,Sch.read,if_neg J,hn]);rw[hn] at E;simp only[gC] at E;clear hn L be J;go_enter Tryz.func49,Tryz.ntmps49;go_wp2_with fail;refine E.out.mono ?_;rintro e w1 ⟨rfl,ab⟩;rw[ab];clear ab w1 E;go_wp2;refine bodyPost_ret (aw rfl _ _ w.1.size _ _ _ _ rfl (am w _) Tryz.underlying29 rfl (by kernel_rfl)) rfl ?_;rw[HE.out];exact⟨rfl,S.out _⟩
  |ok nk=>
    obtain⟨m,kk⟩:=nk;have bi:=Sch.num_ok hn;have c5:kk<=l.length:=by
      obtain⟨-,r,a5,di⟩:=bi;have:=congrArg List.length a5;rw[List.length_append] at this;omega
    have dr:=bi.1
    have M:Hid (R=if m=0 then .error 4 else if 16<m then .error 3 else match Sch.rdCs m [] (l.drop kk) with
      |.error e=>.error e
      |.ok (l_1,j)=>if kk+j=l.length then .ok l_1 else .error 5):=by show _=_;rw[L.out,Sch.read,if_neg J,hn];rfl
    rw[hn] at E;simp only[gC,Nat.zero_add] at E;clear hn L bi J;go_enter Tryz.func49,Tryz.ntmps49;go_wp2_with fail;refine E.out.mono ?_;rintro e w1 ⟨rfl,ab⟩;rw[ab];clear ab w1 E;by_cases O:m=0
    · have b7:((m:Int)==0)=true:=cZ (by omega);have HE:Hid (R=.error 4):=(by show _=_;rw[M.out,if_pos O]);clear M O;go_wp2;refine bodyPost_ret (aw rfl _ _ w.1.size _ _ _ _ rfl (am w _) Tryz.underlying29 rfl (by kernel_rfl)) rfl ?_;rw[HE.out];exact⟨rfl,S.out _⟩
    have b7:((m:Int)==0)=false:=bd (by omega);by_cases a2:16<m
    · have cv:(16:Int)<(m:Int):=(by omega);have HE:Hid (R=.error 3):=(by show _=_;rw[M.out,if_neg O,if_pos a2]);clear M O a2;go_wp2;refine bodyPost_ret (aw rfl _ _ w.1.size _ _ _ _ rfl (am w _) Tryz.underlying29 rfl (by kernel_rfl)) rfl ?_;rw[HE.out];exact⟨rfl,S.out _⟩
    have cv:¬(16:Int)<(m:Int):=(by omega);have dp:m<=16:=by omega
    have W:Hid (R=match Sch.rdCs m [] (l.drop kk) with
      |.error e=>.error e
      |.ok (l_1,j)=>if kk+j=l.length then .ok l_1 else .error 5):=by show _=_;rw[M.out,if_neg O,if_neg a2]
    clear M O a2;go_wp2_with fail;go_loopw [5,7,8] (fun db dc br wr=>∃(s:List Col) (n:Nat) (q:OA) (d:Nat),s.length<=m∧db=.int .i64 ((kk:Int)+(n:Int))∧dc=.slice q s.length d∧br=.int .i64 s.length∧kk+n<=l.length∧Hid (ip w s (.slice q s.length d) wr∧Sch.rdCs m [] (l.drop kk)=shift n (Sch.rdCs (m-s.length) s (l.drop (kk+n))))) (fun _ _ br _=>m-(intOf br).toNat);case atStart=>
      refine⟨[],0,none,0,by simp,by go_num,rfl,rfl,c5,kS w,?_⟩;rw[List.length_nil,Nat.sub_zero,Nat.add_zero];cases Sch.rdCs m [] (l.drop kk) with
      |error e=>rfl
      |ok q=>simp[shift]
    case round=>
      obtain⟨s,n,q,d,ds,rfl,rfl,rfl,c7,V⟩:=hrel;have z:=gQq V.out.1;have K:=gQq V.out.2;by_cases dk:s.length<m
      · have dn:(s.length:Int)<(m:Int):=(by omega);obtain⟨us,Fs,Y⟩:=z.out.built;obtain⟨dv,df,cy,cx,ca⟩:=Y.cols (by omega);injection cy with e1 e2 e3;subst e1 e3;have a6:=jU s q d p l c cc c6 (kk+n) wr (by omega) c7 ca (b3.out.on z.out.below);rw[show((kk+n:Nat):Int)=(kk:Int)+(n:Int) by omega] at a6;obtain⟨C,a3⟩:∃C,C=Sch.rdC s (l.drop (kk+n)):=⟨_,rfl⟩;have a8:=gQq a3;rw[<-a3] at a6;have a9:=gQq a6;have a0:Hid (Sch.rdCs m [] (l.drop kk)=shift n (np (m-(s.length+1)) s (l.drop (kk+n)) C)):=by
          show _=_;rw[K.out,show m-s.length=(m-(s.length+1))+1 by omega,iF,<-a3]
        have b6:=gQq Y;clear a3 V a6 Y ca cx;go_wp2_with fail;refine a9.out.mono ?_;intro e w2 a5;cases C with
        |error er=>
          obtain⟨rfl,I⟩:=a5;have be:=wN a8.out.symm;have b8:((er:Int) != 0)=true:=(by rw[bne_iff_ne];omega);have HE:Hid (R=.error er):=(by show _=_;rw[W.out,a0.out];rfl);have da:=z.out.size;have c9:=I.size;obtain⟨w3,a7⟩:∃w3,w3=w2.alloc (.cells #[.string ⟨#[]⟩,.int .i64 0,.slice none 0 0,.bool false,.int .i64 0,.int .i64 0,.float .f64 0,.string ⟨#[]⟩,.slice none 0 0] 40):=⟨_,rfl⟩;have bc:Below wr.1.size wr w3:=(by rw[a7];exact I.alloc I.size _);have D:w3.1[w.1.size]?=some (.cells #[.slice none 0 0] 29 (0,0)):=(bc.block _ (by omega)).trans z.out.b0;have cn:w3.cell? ⟨w.1.size,0,none⟩=some (.slice none 0 0):=aa D 0;have co:=ac D 0;have U:Hid (Below w.1.size w (w3.setCell ⟨w.1.size,0,none⟩ (.slice none 0 0))):=(z.out.below.trans (bc.mono (by omega))).setCell gQx _;have X:Hid ((w3.setCell ⟨w.1.size,0,none⟩ (.slice none 0 0)).1[w.1.size]?=some (.cells #[.slice none 0 0] 29 (0,0))):=ai D 0 _;have cs:=gQq a7;rw[a7] at cn co;unfold av;clear D bc I a7 a9 a0 K z W be c9;go_wp2;rw[<-cs.out];refine bodyPost_ret (aw rfl _ _ w.1.size _ _ _ _ rfl X.out Tryz.underlying29 rfl (by kernel_rfl)) rfl ?_;rw[HE.out];exact⟨rfl,U.out⟩
        |ok ck=>
          obtain⟨y,Q⟩:=ck;obtain⟨d0,rfl,bk,I⟩:=a5;obtain⟨dd,de,k',bq,bp,bn,bT,bO,bs,b2,b1,bX,bN,bj,-⟩:=bk.out;have dj:Q<=l.length-(kk+n):=by
            obtain⟨J,⟨r,cw⟩,-⟩:=Sch.rdC_ok a8.out.symm;have c8:=congrArg List.length cw;rw[List.length_drop,List.length_append] at c8;omega
          have a1:=gQq bk;have b4:=gQq I;have da:w.1.size+1<=w2.1.size:=Nat.le_trans z.out.size I.size;have cr:Hid (Sch.rdCs m [] (l.drop kk)=shift (n+Q) (Sch.rdCs (m-(s++[y]).length) (s++[y]) (l.drop (kk+(n+Q))))):=by
            show _=_;rw[a0.out,np,iU,List.length_append,List.length_singleton,List.drop_drop,Nat.add_assoc kk]
          obtain⟨ah,cf⟩:∃ah,ah=y.name:=⟨_,rfl⟩;obtain⟨Z,cg⟩:∃Z,Z=y.has:=⟨_,rfl⟩;rw[<-cf,<-cg] at bj;rw[bj] at a1;subst bj;rw[show((kk+n+Q:Nat):Int)=(kk:Int)+(n:Int)+(Q:Int) by omega];clear bk I a9 a0 K cf cg a8;unfold av at a1 ⊢;have b5:Hid (Below w2.1.size w2 ((w2.alloc (.cells #[.string ah,.int .i64 k',.slice bq bp bn,.bool Z,.int .i64 bT,.int .i64 bO,.float .f64 bs,.string b2,.slice b1 bX bN] 40)).alloc (.cells #[.string ah,.int .i64 k',.slice bq bp bn,.bool Z,.int .i64 bT,.int .i64 bO,.float .f64 bs,.string b2,.slice b1 bX bN] 40))):=gQy.alloc (by simp) _
          go_wp2_with (at_builtin;refine nc (B:=w.1.size+1) (us:=us) ((b6.out.on b4.out).on b5.out).row (u:=#[.string ah,.int .i64 k',.slice bq bp bn,.bool Z,.int .i64 bT,.int .i64 bO,.float .f64 bs,.string b2,.slice b1 bX bN]) rfl a1.out.one9 (ad:=w2.1.size+1) (bK w2 _ _) (by omega) (by simp;omega) rfl rfl rfl rfl rfl ?_;intro b8 ct w4 ce cb cd;have cp:=gQq (z.out.next b6.out b4.out a1.out (fun _ h=>h) b5.out ce cb cd);clear ce cb cd)
          go_roundw;case rel=>exact⟨s++[y],n+Q,some ⟨b8,0,none⟩,ct,by simp;omega,by go_num,by simp,by simp,by omega,⟨by simpa using cp.out,cr.out⟩⟩
          case measure=>simp[intOf];omega
      · have dh:¬(s.length:Int)<(m:Int):=(by omega);have ci:s.length=m:=(by omega);have ak:Hid (R=if kk+n=l.length then .ok s else .error 5):=by
          show _=_;rw[W.out,K.out,ci,Nat.sub_self];simp[Sch.rdCs,shift]
        clear ci;have D:=z.out.b0;have cn:wr.cell? ⟨w.1.size,0,none⟩=some (.slice none 0 0):=aa D 0;have co:=ac D 0;by_cases a4:kk+n=l.length
        · have gf:((kk:Int)+(n:Int) != (l.length:Int))=false:=bo (by omega);have HE:Hid (R=.ok s):=(by show _=_;rw[ak.out,if_pos a4]);have X:Hid ((wr.setCell ⟨w.1.size,0,none⟩ (.slice q s.length d)).1[w.1.size]?=some (.cells #[.slice q s.length d] 29 (0,0))):=ai D 0 _;have U:Hid (Below w.1.size w (wr.setCell ⟨w.1.size,0,none⟩ (.slice q s.length d))):=z.out.below.setCell gQx _;have cq:Hid (fv (wr.setCell ⟨w.1.size,0,none⟩ (.slice q s.length d)) w.1.size #[.slice q s.length d] s):=by
            obtain⟨us,Fs,Y⟩:=z.out.built;exact⟨_,us,Fs,rfl,(Y.set ⟨w.1.size,0,none⟩ _ (by show w.1.size<_;omega)).low (by omega),by omega⟩
          clear D V K W ak a4;go_wp2;refine bodyPost_ret (aw rfl _ _ w.1.size _ _ _ _ rfl X.out Tryz.underlying29 rfl (by kernel_rfl)) rfl ?_;rw[HE.out];exact⟨_,rfl,cq.out,U.out⟩
        · have gf:((kk:Int)+(n:Int) != (l.length:Int))=true:=aQ (by omega);have HE:Hid (R=.error 5):=(by show _=_;rw[ak.out,if_neg a4]);have X:Hid ((wr.setCell ⟨w.1.size,0,none⟩ (.slice none 0 0)).1[w.1.size]?=some (.cells #[.slice none 0 0] 29 (0,0))):=ai D 0 _;have U:Hid (Below w.1.size w (wr.setCell ⟨w.1.size,0,none⟩ (.slice none 0 0))):=z.out.below.setCell gQx _;clear D V K W ak a4;go_wp2;refine bodyPost_ret (aw rfl _ _ w.1.size _ _ _ _ rfl X.out Tryz.underlying29 rfl (by kernel_rfl)) rfl ?_;rw[HE.out];exact⟨rfl,U.out⟩
end
section
open Go.RowKit
theorem lR(us:Nat->AV):∀n,(∀j,j<n->(us j).size=2)->(flat us n).length=n*2
 |0,_=>by simp[flat]
 |n+1,h=>by
  rw[flat,List.length_append,lR us n fun j o=>h j (by omega),Array.length_toList,h n (by omega)];omega
theorem lS(us:Nat->AV):∀n,(∀j,j<n->(us j).size=2)->∀j,j<n->∀m,m<2->(flat us n)[j*2+m]?=(us j)[m]?
 |0,_,j,o,_,_=>by omega
 |n+1,h,j,o,m,hm=>by
  have D:=lR us n fun j o=>h j (by omega);rw[flat];rcases Nat.lt_or_ge j n with y | y
  ·rw[List.getElem?_append_left (by omega),lS us n (fun j o=>h j (by omega)) j y m hm]
  ·have z:j=n:=(by omega);subst z;rw[List.getElem?_append_right (by omega),D,Nat.add_sub_cancel_left];simp
def xA:Value:=.agg (an 0 none 0 0)
theorem yv:(Tryz.prog.info? 34).map (fun i=>(i.zero,i.size,i.bytes))=some (some xA,2,32):=by kernel_rfl
theorem zY{F:Nat->Prop}(h:aW w F u x):∀a∈u.toList,a.oneCell'=true:=by
 obtain⟨k,p,n,c,rfl⟩:=h.shape;intro a o;simp[an] at o;rcases o with rfl | rfl <;> rfl
section
variable {B:Nat} {v:Value} {n:Nat} {us:Nat->AV} {w:World} {u:AV} {ad H:Nat}
theorem po(ab:w.ownsRow B 34 2 v n (flat us n))(M:u.size=2)(I:∀a∈u.toList,a.oneCell'=true)(U:w.1[ad]?=some (.cells u 34 (0,0)))(Y:(n+1)*32<=140737488355328)(O:B<=w.1.size)(Q:w.1.size=H){a1:Array Oper}{o:Oper}{a:Act}{z:Act->World->Prop}{E:Exit->Act->World->Prop}{D:Prop}(y x:Operand)(W:o.guard=none)(Z:o.op=Op.call { callee:=Callee.builtin Builtin.append,args:=#[y,x],argTypes:=#[32,32] })(ah:a.eval y=v)(ak:a.eval x=.slice (some ⟨ad,0,none⟩) 1 1)(S:∀g cap w',w'.ownsRow B 34 2 (.slice (some ⟨g,0,none⟩) (n+1) cap) (n+1) (flat us n++u.toList)->w.grownBy w' v.ownBlock->(v.ownBlock=some g∨g=H)->z (a.put o.dst (.slice (some ⟨g,0,none⟩) (n+1) cap)) w'):
  if Region.wanted o (yielded a1 a.tmps)=true then Oper.wp Tryz.prog o a w z E else D:=by
 obtain⟨i,X,a0,aj,V⟩:=info_parts yv
 exact step_append_lies w W y x 32 Z B 34 i xA 2 32 Tryz.underlying32 X a0 aj V rfl (by decide) v n (flat us n) ah ab ⟨ad,0,none⟩ 1 1 u.toList ak (by simp[M])
  (World.news_of_block U) I (by decide) (by unfold maxLen;omega) Y O H Q fun g cap w' J K L _=>S g cap w' J K L
end
structure bL(w:World)(B:Nat)(v:Value)(n:Nat)(us:Nat->AV)(Fs:Nat->Nat->Prop)(ys:List Ty):Prop where
 len:ys.length=n
 five:∀j,j<n->(us j).size=2
 row:w.ownsRow B 34 2 v n (flat us n)
 own:∀j (h:j<ys.length),aW w (Fs j) (us j) ys[j]
 apart:∀j m,j<n->m<n->j≠m->∀k,Fs j k->¬Fs m k
 beside:∀g,v.ownBlock=some g->∀j,j<n->¬Fs j g
 range:∀j,j<n->∀k,Fs j k->B<=k∧k<w.1.size
theorem jH(w:World)(B:Nat):bL w B (.slice none 0 0) 0 (fun _=>#[]) (fun _ _=>False) [] :=
 ⟨rfl,fun j o=>by omega,World.ownsRow_nil _ _ _ _,fun j o=>by simp at o,fun j m o=>by omega,fun g y=>by simp[Value.ownBlock] at y,fun j o=>by omega⟩
section
variable {w w':World} {B:Nat} {v:Value} {n:Nat} {us:Nat->AV} {Fs:Nat->Nat->Prop} {ys:List Ty}
theorem bL.aside{G:Nat->Prop}(h:bL w B v n us Fs ys)(y:Aside G w w')(I:∀g,v.ownBlock=some g->¬G g)(J:∀j,j<n->∀k,Fs j k->¬G k):bL w' B v n us Fs ys:=by
 refine⟨h.len,h.five,?_,fun j o=>(h.own j o).aside y (J j (by rw[<-h.len];exact o)),h.apart,h.beside,fun j o k D=>⟨(h.range j o k D).1,Nat.lt_of_lt_of_le (h.range j o k D).2 y.size⟩⟩;refine⟨h.row.1,?_⟩;rcases h.row.2 with K | ⟨g,cap,E,rfl,L,z,M⟩
 ·exact .inl K
 ·exact .inr ⟨g,cap,E,rfl,L,by rw[y.block g (Array.getElem?_eq_some_iff.1 z).1 (I g rfl)];exact z,M⟩
theorem bL.lt(h:bL w B v n us Fs ys):∀g,v.ownBlock=some g->B<=g∧g<w.1.size:=World.ownsRow.lt h.row
theorem bL.on(h:bL w B v n us Fs ys)(hb:Below w.1.size w w'):bL w' B v n us Fs ys :=
 h.aside (al hb (fun _=>False)) (fun _ _ o=>o) (fun _ _ _ _ o=>o)
theorem bL.set(h:bL w B v n us Fs ys)(p:Addr)(u:Value)(E:p.block<B):bL (w.setCell p u) B v n us Fs ys :=
 h.aside (G:=fun k=>k=p.block) ((Aside.refl (fun k=>k=p.block) w).setCell (p:=p) (.inl rfl) u) (fun g y o=>by have:=(h.lt g y).1;omega) (fun j z k D o=>by have:=(h.range j z k D).1;omega)
theorem bL.step{F:Nat->Prop}{cap:Nat}(h:bL w B v n us Fs ys)(hb:Below w.1.size w w2)(S:aW w2 F u x)(I:∀k,F k->w.1.size<=k∧k<w2.1.size)(L:Below w2.1.size w2 w3)(ah:B<=w.1.size)(W:w4.ownsRow B 34 2 (.slice (some ⟨g,0,none⟩) (n+1) cap) (n+1) (flat us n++u.toList))(J:w3.grownBy w4 v.ownBlock)(D:v.ownBlock=some g∨g=w3.1.size):
  bL w4 B (.slice (some ⟨g,0,none⟩) (n+1) cap) (n+1) (fun j=>if j=n then u else us j) (fun j=>if j=n then F else Fs j) (ys++[x]):=by
 have a0:=hb.size;have a1:=L.size;have K:Aside (fun k=>v.ownBlock=some k) w2 w4:=by
  refine(al L _).trans (G:=fun k=>v.ownBlock=some k) ⟨J.os,J.tape,J.output,J.size,fun k o U=>J.block k o (fun y=>U y.symm)⟩ (fun _ _ h=>h)
 have O:∀k,F k->¬v.ownBlock=some k:=fun k o y=>by have:=(h.lt k y).2;have:=(I k o).1;omega
 have ak:∀j,j<n+1->j≠n->j<n:=fun j Y Z=>by omega
 refine⟨by rw[List.length_append,h.len];rfl,fun j E=>?_,?_,fun j E=>?_,fun j m E aj V k o=>?_,fun X M j E=>?_,fun j E k o=>?_⟩
 ·split
  ·exact S.five
  ·exact h.five j (by omega)
 ·rw[flat,fq _ us n (fun j E=>by simp[show ¬j=n by omega])];simpa using W
 ·rw[List.length_append,h.len,List.length_singleton] at E;by_cases z:j=n
  ·subst z;rw[if_pos rfl,if_pos rfl,List.getElem_append_right (by rw[h.len];exact gQx)];simp only[h.len,Nat.sub_self,List.getElem_singleton];exact S.aside K O
  ·rw[if_neg z,if_neg z,List.getElem_append_left (by rw[h.len];omega)];exact((h.own j (by rw[h.len];omega)).under hb (fun k o=>(h.range j (by omega) k o).2)).aside K (fun k o y=>h.beside k y j (by omega) o)
 ·by_cases z:j=n
  ·rw[if_pos z] at o;rw[if_neg (by omega)];exact fun y=>by have:=(h.range m (by omega) k y).2;have:=(I k o).1;omega
  ·rw[if_neg z] at o;by_cases Q:m=n
   ·rw[if_pos Q];exact fun y=>by have:=(h.range j (by omega) k o).2;have:=(I k y).1;omega
   ·rw[if_neg Q];exact h.apart j m (by omega) (by omega) V k o
 ·simp only[Value.ownBlock,Option.some.injEq] at M;subst M;by_cases z:j=n
  ·rw[if_pos z];intro y;have:=I _ y;rcases D with D | D
   ·exact O _ y D
   ·omega
  ·rw[if_neg z];intro y;rcases D with D | D
   ·exact h.beside _ D j (by omega) y
   ·have:=(h.range j (by omega) _ y).2;omega
 ·have ab:=K.size;by_cases z:j=n
  ·rw[if_pos z] at o;have:=I k o;omega
  ·rw[if_neg z] at o;have:=h.range j (by omega) k o;omega
theorem bL.done(h:bL w B v n us Fs ys)(O:n*32<=140737488351232)(k:Int):∃p c,v=.slice p n c∧aW w (fun k=>B<=k∧k<w.1.size) (an k p n c) (.mk k ys):=by
 rcases h.row.2 with ⟨rfl,z⟩ | ⟨g,cap,V,rfl,I,y,J,W,X,K⟩
 ·have U:ys=[]:=List.eq_nil_of_length_eq_zero (by rw[h.len];exact z);subst U;subst z;exact⟨none,0,rfl,.none⟩
 ·refine⟨_,cap,rfl,?_⟩;have D:=(Array.getElem?_eq_some_iff.1 y).1;have Q:=h.len;have L:∀q,q<n*2->w.cell? ⟨g,q,none⟩=(flat us n)[q]?:=fun q S=>by
   rw[<-K,List.getElem?_take_of_lt S];simp[World.cell?,y]
  subst Q;refine .some us Fs O J h.five ⟨D,fun j o m E=>?_⟩ (fun j o m E=>by simp[World.frozen?,y]) ⟨I,D⟩ (fun j o=>h.beside g rfl j o) h.apart (fun j o k M=>h.range j o k M) h.own;rw[Nat.zero_add,L _ (by omega),lS us _ h.five j o m E]
end
structure io(w:World)(C0:AV)(k:Int)(zs:List Ty)(j:Nat)(v:Value)(wr:World):Prop where
 built:∃us Fs,bL wr (w.1.size+3) v j us Fs (zs.take j)
 b0:wr.1[w.1.size]?=some (.cells C0 34 (0,0))
 b1:wr.1[w.1.size+1]?=some (.cells (an 0 none 0 0) 34 (0,0))
 b2:wr.1[w.1.size+2]?=some (.cells #[.int .i64 k,v] 34 (0,0))
 below:Below w.1.size w wr
 size:w.1.size+3<=wr.1.size
section
variable {w wr:World} {C0:AV} {k:Int} {zs:List Ty} {j:Nat} {v:Value}
theorem io.slice(h:io w C0 k zs j v wr):∃p c,v=.slice p j c:=by
 obtain⟨us,Fs,hb⟩:=h.built;rcases hb.row.2 with ⟨o,y⟩ | ⟨g,cap,z,o,_⟩
 ·exact⟨none,0,by rw[o,y]⟩
 ·exact⟨_,cap,o⟩
theorem io.next{F:Nat->Prop}{cap:Nat}{us:Nat->AV}{Fs:Nat->Nat->Prop}(h:io w C0 k zs j v wr)(z:bL wr (w.1.size+3) v j us Fs (zs.take j))(K:j<zs.length)(hb:Below wr.1.size wr w2)(S:aW w2 F u zs[j])(I:∀k,F k->wr.1.size<=k∧k<w2.1.size)(o:Below w2.1.size w2 w3)(M:w4.ownsRow (w.1.size+3) 34 2 (.slice (some ⟨g,0,none⟩) (j+1) cap) (j+1) (flat us j++u.toList))(y:w3.grownBy w4 v.ownBlock)(E:v.ownBlock=some g∨g=w3.1.size):
  Below w.1.size w w4∧(∀n,n<3->w4.1[w.1.size+n]?=wr.1[w.1.size+n]?)∧io w C0 k zs (j+1) (.slice (some ⟨g,0,none⟩) (j+1) cap) (w4.setCell ⟨w.1.size+2,1,none⟩ (.slice (some ⟨g,0,none⟩) (j+1) cap)):=by
 have O:=h.size;have U:=hb.size;have V:=o.size;have Q:=z.step hb S I o O M y E;have hold:∀n,n<3->w4.1[w.1.size+n]?=wr.1[w.1.size+n]?:=fun n E=>by
  rw[y.block _ (by omega) (fun J=>by have:=(z.lt _ J.symm).1;omega),o.block _ (by omega),hb.block _ (by omega)]
 have D:Below w.1.size w w4:=((h.below.trans (hb.mono (by omega))).trans (o.mono (by omega))).grown y (by omega) (fun k L=>by have:=(z.lt k L).1;omega);refine⟨D,hold,⟨⟨(fun n=>if n=j then u else us n),(fun n=>if n=j then F else Fs n),?_⟩,?_,?_,?_,?_,?_⟩⟩
 ·rw[List.take_succ_eq_append_getElem K];exact Q.set ⟨w.1.size+2,1,none⟩ _ (by show w.1.size+2<_;omega)
 ·have:=hold 0 (by omega);rw[Nat.add_zero] at this;exact ax (this.trans h.b0) _ _ (by show w.1.size≠w.1.size+2;omega)
 ·exact ax ((hold 1 (by omega)).trans h.b1) _ _ (by show w.1.size+1≠w.1.size+2;omega)
 ·rw[ai ((hold 2 (by omega)).trans h.b2)];rfl
 ·exact D.setCell (by show w.1.size<=w.1.size+2;omega) _
 ·have:=y.size;simp[World.setCell];omega
end
end
end Go.Proofs.YtbahfgdbjgkklaaGreatDoor
