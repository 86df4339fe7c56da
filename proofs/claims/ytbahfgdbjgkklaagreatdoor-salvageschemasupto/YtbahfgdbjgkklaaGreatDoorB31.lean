import Derived.Test.YtbahfgdbjgkklaaGreatDoorB30
import Derived.Test.YtbahfgdbjgkklaaGreatDoorB27
set_option maxRecDepth 100000
set_option maxHeartbeats 2000000
namespace Go.Proofs.YtbahfgdbjgkklaaGreatDoor
variable{A R m n:Nat}{w w':World}{l:L8}{k:Int}{u:AV}{t:Ty}
section
open Go.RowKit
attribute [local go_sem] af
section
variable {L:L8}
theorem pM(l:L8)(A R:Nat)(w:World)(p:OA)(n c:Nat)(h:aD L w A R l):Calls Tryz.prog 230 #[.pointer (some ⟨R,0,none⟩),.agg #[.int .i64 3,.slice p n c]] w (bI L w A R l (Sch.scalar 3 l) (isV w)):=by
 have bb:=h.lt;obtain⟨W,ah⟩:∃W,W=(w.alloc (.cells #[.int .i64 3,.slice p n c] 34)).alloc (.cells #[.int .i64 0,.int .i64 0,.float .f64 0,.string ⟨#[]⟩,.slice none 0 0] 38):=⟨_,rfl⟩;have U:Hid (aY L w W A R #[.int .i64 3,.slice p n c] l):=by rw[ah];exact bf _ h
 have ab:=gQq ah;obtain⟨r,a3⟩:∃r,r=Sch.scalar 3 l:=⟨_,rfl⟩;have V:=gQq (a3.trans (nA l));rw[<-a3];have z:=gQq (l5 8 l A R W U.out.rd);clear h a3 ah;by_cases I:l.length<8
 ·have M:aU 8 l=.error 30:=by rw[aU,if_pos I]
  have K:Hid (r=.error 30):=by show _=_;rw[V.out,Sch.float,if_pos I];rfl
  rw[M] at z;clear M I V;go_enter Tryz.func230,Tryz.ntmps230;go_wp2_with fail;rw[<-ab.out];refine z.out.mono ?_;intro e w1 Q;obtain⟨ak,O⟩:=Q.bad;subst ak;clear Q;have bn:=gQq (U.out.aside.trans O (fun _ _ h=>h));clear O z;go_wp2;rw[K.out];exact⟨rfl,rfl,bn.out⟩
 ·have M:aU 8 l=.ok (l.take 8,8):=by rw[aU,if_neg I]
  have K:Hid (r=if ay (Sch.un (l.take 8))=Sch.un (l.take 8) then .ok (.mk 3 0 (Sch.un (l.take 8)) ⟨#[]⟩ [],8) else .error 5):=by
   show _=_;rw[V.out,Sch.float,if_neg I];split
   ·rw[aK]
   ·rfl
  rw[M] at z;have aj:(l.take 8).length=8:=by rw[List.length_take];omega
  obtain⟨b,hb⟩:∃b,b=l.take 8:=⟨_,rfl⟩;rw[<-hb] at z K aj;have S:=gQq aj;have br:Hid (Sch.un (b.take 0)=0):=by show _=_;simp[Sch.un]
  clear M I V hb aj;go_enter Tryz.func230,Tryz.ntmps230;go_wp2_with fail;rw[<-ab.out];refine z.out.mono ?_;intro e w1 Q;obtain⟨v,ak,bj,bi,O⟩:=Q.good;obtain⟨q,b9,b6,bc,-⟩:=bj.open;clear Q bj;subst b6;subst ak;rw[S.out];have o:=gQq (U.out.step O bi bb);obtain⟨b8,cj,b5,-,be⟩:=aC bc (by rw[S.out];decide);subst b5;have bp:=gQq be;clear O z bc bi be U ab;go_wp2_with fail;go_loop [5,12] (fun b7 a5=>∃(k m:Nat),k<=8∧a5=.int .i64 k∧b7=.int .u64 m∧m<18446744073709551616∧Hid (m=Sch.un (b.take k))) (fun _ a5=>8-(intOf a5).toNat);case atStart=>exact⟨0,0,by omega,rfl,rfl,by omega,br.out.symm⟩
  case round=>
   obtain⟨k,m,cc,rfl,rfl,cf,E⟩:=hrel;by_cases bX:k<8
   ·have cd:(k:Int)<8:=(by omega);have a1:k<b.length:=(by rw[S.out];exact bX);have bs:=bp.out k a1;have Y:=gJ b k a1;have b3:=eY b (k+1) (by omega);obtain⟨x,a4⟩:∃x,x=b[k].toNat:=⟨_,rfl⟩;rw[<-a4] at bs Y;have cg:x<256:=(by rw[a4];exact b[k].toNat_lt);have a2:m+x*256 ^ k<18446744073709551616:=by
     rw[E.out,<-Y];have e:(256:Nat) ^ (k+1)<=256 ^ 8:=Nat.pow_le_pow_right (by decide) (by omega);have ca:(256:Nat) ^ 8=18446744073709551616:=(by decide);omega
    have b4:=nU m x k (by rw[E.out];exact eY b k (by omega)) a2;have J:Hid (m+x*256 ^ k=Sch.un (b.take (k+1))):=(by show _=_;rw[Y,E.out]);clear Y b3 a4 E a1;obtain⟨y,bk⟩:∃y,y=m+x*256 ^ k:=⟨_,rfl⟩;rw[<-bk] at b4 J a2;clear bk;go_wp2;go_round;case rel=>exact⟨k+1,y,by omega,by go_num,rfl,a2,J.out⟩
    case measure=>simp[intOf];omega
   ·have ce:¬(k:Int)<8:=(by omega);have b2:k=8:=(by omega);subst b2;have J:Hid (m=Sch.un b):=by
     show _=_;rw[E.out,List.take_of_length_le (by rw[S.out];exact gQx)]
    clear E;have a8:=gQq (jW (m:Int));have a9:((m:Int)).toNat=m:=(by omega);rw[a9] at a8;have a7:=gQq (cS (ay m));rw[eT] at a7;have X:Hid (r=if ay m=m then .ok (.mk 3 0 m ⟨#[]⟩ [],8) else .error 5):=(by show _=_;rw[K.out,J.out]);clear K J a9;have ci:w1.cell? ⟨w.1.size,0,none⟩=some (.int .i64 3):=aa o.out.b0 0;have ck:w1.cell? ⟨w.1.size+1,0,none⟩=some (.int .i64 0):=aa o.out.b1 0;have cr:w1.frozen? ⟨w.1.size+1,0,none⟩=false:=ac o.out.b1 0;have cn:w1.cell? ⟨w.1.size+1,1,none⟩=some (.int .i64 0):=aa o.out.b1 1;have cs:w1.frozen? ⟨w.1.size+1,1,none⟩=false:=ac o.out.b1 1;have co:w1.cell? ⟨w.1.size+1,2,none⟩=some (.float .f64 0):=aa o.out.b1 2;have ct:w1.frozen? ⟨w.1.size+1,2,none⟩=false:=ac o.out.b1 2;have cp:w1.cell? ⟨w.1.size+1,3,none⟩=some (.string ⟨#[]⟩):=aa o.out.b1 3;have cu:w1.frozen? ⟨w.1.size+1,3,none⟩=false:=ac o.out.b1 3;have cq:w1.cell? ⟨w.1.size+1,4,none⟩=some (.slice none 0 0):=aa o.out.b1 4;have cv:w1.frozen? ⟨w.1.size+1,4,none⟩=false:=ac o.out.b1 4;go_wp2_with fail;refine(a8.out _).mono ?_;rintro e D ⟨rfl,hw2⟩;rw[hw2];clear hw2 D;go_wp2_with fail;refine(a7.out _).mono ?_;rintro e D ⟨rfl,hw2⟩;rw[hw2];clear hw2 D;by_cases a0:ay m=m
    ·have Z:Hid (r=.ok (.mk 3 0 m ⟨#[]⟩ [],8)):=X.out.trans (if_pos a0);have bq:=gQq (o.out.fin bb 3 0 m ⟨#[]⟩);rw[a0];clear X;go_wp2_with fail;refine(dI _ 5 _).mono ?_;rintro e D ⟨rfl,hw2⟩;rw[hw2];clear hw2 D;go_wp2;obtain⟨f1,bN,bO,bT⟩:=bq.out;refine bodyPost_ret (v:=.agg (cells5 3 0 m ⟨#[]⟩ none 0 0)) (results_cell_row rfl _ _ (w.1.size+1) _ _ _ _ rfl f1 Tryz.underlying38 rfl (by kernel_rfl)) rfl ?_;rw[Z.out];exact⟨_,rfl,bN,bO,bT⟩
    ·have Z:Hid (r=.error 5):=X.out.trans (if_neg a0);have cb:((ay m:Int)==(m:Int))=false:=bd (by omega);clear X;go_wp2_with fail;refine(cT _ 5 _).mono ?_;rintro e D ⟨rfl,hw2⟩;rw[hw2];clear hw2 D;go_wp2;rw[Z.out];exact⟨rfl,rfl,o.out.aside⟩
end
end
section
open Go.RowKit
attribute [local go_sem] af
structure cG(w:World)(R:Nat)(u:AV)(t:Ty):Prop where
 out:∃w0:World,aH w0 u t∧Below w0.1.size w0 w∧w0.1.size<=R
theorem cG.aside(h:cG w R u t)(D:Aside (fun i=>i=R) w w'):cG w' R u t:=by
 obtain⟨w0,y,o,z⟩:=h.out;exact⟨w0,y,o.trans (D.below o.size (fun k I E=>by omega)),z⟩
theorem cG.on(h:cG w R u t)(hb:Below w.1.size w w'):cG w' R u t:=by
 obtain⟨w0,y,o,z⟩:=h.out;exact⟨w0,y,o.trans (hb.mono o.size),z⟩
theorem cG.one{x:Ty}(h:cG w R u (.mk k [x])):∃g off c k' q n' y,u=an k (some ⟨g,off,none⟩) 1 c∧cG w R (an k' q n' y) x∧g<R∧g<w.1.size∧w.cell? ⟨g,off,none⟩=some (.int .i64 k')∧w.cell? ⟨g,off+1,none⟩=some (.slice q n' y):=by
 obtain⟨w0,J,z,K⟩:=h.out;obtain⟨p,c,rfl,-,-,U⟩:=J.open;obtain⟨a1,S,hit⟩:=U 0 (by simp);obtain⟨Z,ak,ah,a0,aj,c0,o,ab,-⟩:=hit.lies;obtain⟨bx,X,V,Y,W,I,O,M,Q,D,E⟩:=(hit.on z).lies;subst O Q;injection o with o;injection o with e1 e2;subst e1 e2;refine⟨bx,X,c,V,Y,W,I,rfl,⟨w0,S,z,K⟩,by omega,M,by simpa using D,by simpa using E⟩
theorem cG.shape(h:cG w R u t):∃k p n c,u=an k p n c:=by
 obtain⟨w0,o,_⟩:=h.out;obtain⟨k,z⟩:=t;obtain⟨p,c,y,-⟩:=o.open;exact⟨k,p,_,c,y⟩
def ik(t:Ty):Prop:=∀(L l:L8) (A R:Nat) (w:World) (u:AV),cG w R u t->aD L w A R l->Calls Tryz.prog 141 #[.pointer (some ⟨R,0,none⟩),.agg u] w (bI L w A R l (Sch.rdV t l) (isV w))
structure iq(L:L8)(w wr:World)(A R:Nat)(u:AV)(t:Ty)(m:Nat)(l:L8)(r:Except Nat (List V×Nat))(ys:List V)(v:Value):Prop where
 built:∃us Fs,aZ wr (w.1.size+1) v ys.length us Fs ys
 b0:wr.1[w.1.size]?=some (.cells u 34 (0,0))
 far:cG w R u t
 left:∃n,aD L wr A R (l.drop n)∧r=glue ys n (Sch.rdN (Sch.rdV t) (m-ys.length) (l.drop n))
 aside:Aside (fun i=>i=R) w wr
 low:R<w.1.size
 size:w.1.size+1<=wr.1.size
 len:ys.length<=m
section
variable {L:L8}
theorem kU(o:cG w R u t)(h:aD L w A R l):iq L w (w.alloc (.cells u 34)) A R u t m l (Sch.rdN (Sch.rdV t) m l) [] (.slice none 0 0):=by
 have hb:Below w.1.size w (w.alloc (.cells u 34)):=gQy;refine⟨⟨_,_,fV _ _⟩,am w _,o,⟨0,h.on hb,?_⟩,al hb _,h.lt,by simp,Nat.zero_le _⟩;rw[List.drop_zero,List.length_nil,Nat.sub_zero];cases Sch.rdN (Sch.rdV t) m l with
 |error e=>rfl
 |ok p=>simp[glue]
theorem iq.next{wr z w4:World}{r:Except Nat (List V×Nat)}{o:List V}{v:Value}(h:iq L w wr A R u t m l r o v){us:Nat->AV}{U:Nat->Nat->Prop}(O:aZ wr (w.1.size+1) v o.length us U o){n j:Nat}{x:V}{E:AV}(bb:o.length<m)(aj:r=glue o n (Sch.rdN (Sch.rdV t) (m-o.length) (l.drop n)))(a7:Sch.rdV t (l.drop n)=.ok (x,j))(J:Aside (fun i=>i=R) wr z)(a2:aO z (fun k=>wr.1.size<=k∧k<z.1.size) E x)(a4:aD L z A R ((l.drop n).drop j)):
  (z.alloc (.cells E 38)).ownsRow (w.1.size+1) 38 5 v o.length (flat us o.length) ∧
  ∀g cap,w4.ownsRow (w.1.size+1) 38 5 (.slice (some ⟨g,0,none⟩) (o.length+1) cap) (o.length+1) (flat us o.length++E.toList)->(z.alloc (.cells E 38)).grownBy w4 v.ownBlock->(v.ownBlock=some g∨g=(z.alloc (.cells E 38)).1.size) ->
   iq L w w4 A R u t m l r (o++[x]) (.slice (some ⟨g,0,none⟩) (o.length+1) cap):=by
 have a5:=h.size;have ak:=h.low;have bc:=J.size;have K:Below z.1.size z (z.alloc (.cells E 38)):=gQy;have be:=K.size;obtain⟨a9,a8,X,Y⟩:=J.split (by omega);have Q:aZ a9 (w.1.size+1) v o.length us U o:=O.aside a8 (fun g D ab=>by have:=(O.lt g D).1;omega) (fun i W k y ab=>by have:=(O.range i W k y).1;omega);refine⟨((Q.on Y).on K).row,fun g cap a3 D a0=>?_⟩;have a6:=Q.step Y a2 (fun k y=>⟨by rw[X];exact y.1,y.2⟩) K (by rw[X];exact a5) a3 D a0;have bi:=D.size;have S:=fun k (y:v.ownBlock=some k)=>(Q.lt k y);have M:Aside (fun k=>v.ownBlock=some k) z w4:=(al K _).trans (G:=fun k=>v.ownBlock=some k) ⟨D.os,D.tape,D.output,D.size,fun k y ah=>D.block k y (fun I=>ah I.symm)⟩ (fun _ _ h=>h);have keep:∀k,k<=w.1.size->k≠R->w4.1[k]?=wr.1[k]?:=fun k y a1=>by
  rw[M.block k (by omega) (fun I=>by have:=(S k I).1;omega),J.block k (by omega) a1]
 have Z:Aside (fun i=>i=R) w w4:=by
  refine(h.aside.trans J (fun _ _ h=>h)).trans M (fun i W I=>?_);have:=(S i I).1;omega
 refine⟨⟨_,_,by rw[List.length_append,List.length_singleton];exact a6⟩,(keep _ gQx (by omega)).trans h.b0,?_,⟨n+j,?_,?_⟩,Z,ak,by omega,by rw[List.length_append,List.length_singleton];omega⟩
 ·exact h.far
 ·rw[<-List.drop_drop];exact a4.aside M (fun k y=>by have:=(S k y).1;omega)
 ·rw[aj,show m-o.length=(m-(o++[x]).length)+1 by rw[List.length_append,List.length_singleton];omega,eJ,a7,iT,eS,List.drop_drop]
theorem ol(t:Ty)(Q:ik t)(m:Nat)(cb:m<=256)(l:L8)(A R:Nat)(w:World)(u:AV)(X:cG w R u t)(h:aD L w A R l):Calls Tryz.prog 257 #[.pointer (some ⟨R,0,none⟩),.int .i64 m,.agg u] w (bI L w A R l (Sch.rdN (Sch.rdV t) m l) (lI w)):=by
  obtain⟨a6,a8,a7,c0,b0⟩:=X.shape;have W:=gQq (kU (m:=m) X h);have bp:=gQq Q;have ca:=h.lt;obtain⟨r,a4⟩:∃r,r=Sch.rdN (Sch.rdV t) m l:=⟨_,rfl⟩;rw[<-a4] at W ⊢;subst b0;unfold an at W ⊢;clear a4 X h Q;go_enter Tryz.func257,Tryz.ntmps257;go_wp2_with fail;go_loopw [7,9] (fun b7 Z wr=>∃(o:List V) (q:OA) (c:Nat),Z=.int .i64 o.length∧b7=.slice q o.length c∧o.length<=m∧Hid (iq L w wr A R #[.int .i64 a6,.slice a8 a7 c0] t m l r o (.slice q o.length c))) (fun _ Z _=>m-(intOf Z).toNat);case atStart=>exact⟨[],none,0,rfl,rfl,Nat.zero_le _,W.out⟩
  case round=>
    obtain⟨o,q,c,rfl,rfl,cc,y⟩:=hrel;by_cases bT:o.length<m
    · have b8:(o.length:Int)<(m:Int):=(by omega);have br:wr.cell? ⟨w.1.size,0,none⟩=some (.int .i64 a6):=aa y.out.b0 0;have bs:wr.cell? ⟨w.1.size,1,none⟩=some (.slice a8 a7 c0):=aa y.out.b0 1;obtain⟨n,z,O⟩:=y.out.left;obtain⟨us,a9,J⟩:=y.out.built;have I:=gQq (bp.out L (l.drop n) A R wr _ (y.out.far.aside y.out.aside) z);have aj:=gQq O;have bb:=gQq J;obtain⟨b4,Y⟩:∃x,x=Sch.rdV t (l.drop n):=⟨_,rfl⟩;rw[<-Y] at I;have ab:=gQq Y;clear z O J Y;cases b4 with
      |error er=>
        have bk:Hid (r=.error er):=by
          show _=_;rw[aj.out,show m-o.length=(m-o.length-1)+1 by omega,eJ,<-ab.out];rfl
        go_wp2_with fail;refine I.out.mono ?_;intro e w1 M;obtain⟨K,E⟩:=M.bad;subst K;clear M;have U:=gQq (y.out.aside.trans E (fun _ _ h=>h));clear E I;go_wp2;rw[bk.out];exact⟨rfl,rfl,U.out⟩
      |ok xj=>
        obtain⟨x,j⟩:=xj;go_wp2_with fail;refine I.out.mono ?_;intro e S M;obtain⟨v,K,Q,z,E⟩:=M.good;obtain⟨cd,b2,D⟩:=Q.open;clear M Q;obtain⟨k',b3,bq,b6,b5,n',bN,b1⟩:=D.shape;subst b1;subst b2;subst K;unfold cells5 at D ⊢;have ah:=gQq (fun w4=>y.out.next (w4:=w4) bb.out bT aj.out ab.out.symm E D z);have bi:=gQq D;have bX:w.1.size+1<=S.1.size+1:=(by have:=y.out.size;have:=E.size;omega);clear E z D I br bs
        go_wp2_with (first|(at_builtin;refine jn (B:=w.1.size+1) (us:=us) (v:=.slice q o.length c) (n:=o.length) (ah.out S).1 (u:=#[.int .i64 k',.int .i64 b3,.float .f64 bq,.string b6,.slice b5 n' bN]) rfl (wS bi.out) (ad:=S.1.size) (am S _) (by omega) (by simpa using bX) (H:=S.1.size+1) (by simp) rfl rfl rfl rfl ?_;intro a0 ak w4 a5 a1 a3;have bc:=gQq ((ah.out w4).2 a0 ak a5 a1 (by simpa using a3));clear a5 a1 a3))
        go_roundw;case rel=>
          refine⟨o++[x],some ⟨a0,0,none⟩,ak,by simp,by simp,by simp;omega,?_⟩;have:=bc.out;rw[List.length_append,List.length_singleton];exact this
        case measure=>simp[intOf];omega
    · have b9:¬(o.length:Int)<(m:Int):=(by omega);have a2:m-o.length=0:=(by omega);obtain⟨n,z,O⟩:=y.out.left;obtain⟨us,a9,J⟩:=y.out.built;have bn:Hid (r=.ok (o,n)):=by
        show _=_;rw[O,a2,Sch.rdN,glue,List.append_nil,Nat.add_zero]
      have be:Hid (lI w o (.slice q o.length c) wr):=by
        refine⟨q,c,rfl,fun k=>?_⟩;obtain⟨p2,c2,K,D⟩:=J.done (by omega) k 0 0 ⟨#[]⟩;injection K with e1 e2 e3;subst e1 e3;exact D.mono (fun i bO=>⟨by omega,bO.2⟩)
      have bj:=gQq z;have U:=gQq y.out.aside;clear z O J y a2;go_wp2;go_ret;rw[bn.out];exact⟨_,rfl,be.out,bj.out,U.out⟩
end
end
section
open Go.RowKit
attribute [local go_sem] af
section
variable {L:L8}
theorem bI.undrew{D:Type}{w w':World}{A R:Nat}{l:L8}{r:Except Nat (D×Nat)}{V:D->Value->World->Prop}{e:Ending}(h:bI L w.drew A R l r V e w'):bI L w A R l r V e w':=by
 cases r with
 |error k=>
  obtain⟨z,o⟩:=h.bad;exact⟨z,⟨o.os,o.tape,o.output,o.size,o.block⟩⟩
 |ok aj=>
  obtain⟨a,j⟩:=aj;obtain⟨v,z,o,E,y⟩:=h.good;exact⟨v,z,o,E,⟨y.os,y.tape,y.output,y.size,y.block⟩⟩
theorem tS(x:Ty)(bp:ik x)(l:L8)(A R:Nat)(w:World)(u:AV)(bc:cG w R u (.mk 6 [x]))(h:aD L w A R l):Calls Tryz.prog 233 #[.pointer (some ⟨R,0,none⟩),.agg u] w (bI L w A R l (Sch.rdV (.mk 6 [x]) l) (isV w)):=by
  have ah:=h.lt;obtain⟨g,off,c,k',cd,n',b5,rfl,be,cj,bj,bT,bX⟩:=bc.one;unfold an;obtain⟨W,a2⟩:∃W,W=(w.alloc (.cells #[.int .i64 6,.slice (some ⟨g,off,none⟩) 1 c] 34)).alloc (.cells #[.int .i64 0,.int .i64 0,.float .f64 0,.string ⟨#[]⟩,.slice none 0 0] 38):=⟨_,rfl⟩;have z:Hid (aY L w W A R #[.int .i64 6,.slice (some ⟨g,off,none⟩) 1 c] l):=by rw[a2];exact bf _ h
  have a1:=gQq a2;obtain⟨r,a4⟩:∃r,r=Sch.rdV (.mk 6 [x]) l:=⟨_,rfl⟩;have a8:=gQq (a4.trans (mu 6 (by omega) x l));rw[<-a4];have S:Hid (r=ar (Sch.bit l) fun m j=>ar (Sch.rdN (Sch.rdV x) m (l.drop j)) fun O V=>.ok (.mk 6 0 0 ⟨#[]⟩ O,j+V)):=by show _=_;rw[a8.out,uJ]
  have Y:Hid (Calls Tryz.prog 252 #[.pointer (some ⟨R,0,none⟩)] W.drew (bI L W A R l (Sch.bit l) isI)):=(qZ l A R W.drew z.out.rd.drew).mono fun _ _ h=>h.undrew;have a6:=gQq be;have a9:=gQq bp
  -- the cells that are read,wherever only the reader has changed
  have aj:Hid (∀Q,Aside (fun i=>i=R) W Q->Q.cell? ⟨w.1.size,0,none⟩=some (.int .i64 6)∧Q.cell? ⟨w.1.size,1,none⟩=some (.slice (some ⟨g,off,none⟩) 1 c)∧Q.cell? ⟨g,off,none⟩=some (.int .i64 k')∧Q.cell? ⟨g,off+1,none⟩=some (.slice cd n' b5)):=fun Q o=>by
    have cn:=z.out.size;have bi:g<W.1.size:=(by omega);refine⟨?_,?_,?_,?_⟩
    · rw[o.cell (show w.1.size<W.1.size by omega) (show ¬w.1.size=R by omega)];exact aa z.out.b0 0
    · rw[o.cell (show w.1.size<W.1.size by omega) (show ¬w.1.size=R by omega)];exact aa z.out.b0 1
    · rw[o.cell (show g<W.1.size from bi) (show ¬g=R by omega),z.out.aside.cell bj (show ¬g=R by omega)];exact bT
    · rw[o.cell (show g<W.1.size from bi) (show ¬g=R by omega),z.out.aside.cell bj (show ¬g=R by omega)];exact bX
  obtain⟨ce,cf,cg,ci⟩:=aj.out W (Aside.refl _ _);have cr:W.cell? ⟨w.1.size+1,0,none⟩=some (.int .i64 0):=aa z.out.b1 0;have cw:W.frozen? ⟨w.1.size+1,0,none⟩=false:=ac z.out.b1 0;have cs:W.cell? ⟨w.1.size+1,1,none⟩=some (.int .i64 0):=aa z.out.b1 1;have cx:W.frozen? ⟨w.1.size+1,1,none⟩=false:=ac z.out.b1 1;have ct:W.cell? ⟨w.1.size+1,2,none⟩=some (.float .f64 0):=aa z.out.b1 2;have cy:W.frozen? ⟨w.1.size+1,2,none⟩=false:=ac z.out.b1 2;have cu:W.cell? ⟨w.1.size+1,3,none⟩=some (.string ⟨#[]⟩):=aa z.out.b1 3;have c5:W.frozen? ⟨w.1.size+1,3,none⟩=false:=ac z.out.b1 3;have cv:W.cell? ⟨w.1.size+1,4,none⟩=some (.slice none 0 0):=aa z.out.b1 4;have c6:W.frozen? ⟨w.1.size+1,4,none⟩=false:=ac z.out.b1 4;obtain⟨cc,a3⟩:∃m,m=Sch.bit l:=⟨_,rfl⟩;rw[<-a3] at S Y;have a7:=gQq a3;clear a4 a3 h a2 be bp bT bX bc a8;cases cc with
  |error er=>
    have ak:Hid (∀y,Aside (fun i=>i=R) W y->bI L w A R l r (isV w) (.panicked (dK er)) y):=fun y o=>by
      have e:r=.error er:=S.out;rw[e];exact⟨rfl,z.out.aside.trans o (fun _ _ h=>h)⟩
    clear S;go_enter Tryz.func233,Tryz.ntmps233;go_wp2_with fail;rw[<-a1.out]
    go_region_law (first|(refine bV (.tmp 8) 219 (by rfl) (by rfl) (by rfl) Tryz.func252 (by kernel_rfl) (by rfl) Y.out (fun e y E=>⟨_,E.bad.1,rfl,ak.out y E.bad.2⟩) (.int .i64 0) ?_;intro ab)|(refine bl ab (.slice none 0 0) ?_))
    all_goals exact ab.out.elim
  |ok mj=>
    obtain⟨m,j⟩:=mj;have ca:m<=256:=(by have:=(Sch.bit_ok a7.out.symm).1;omega);have U:Hid (r=ar (Sch.rdN (Sch.rdV x) m (l.drop j)) fun O V=>.ok (.mk 6 0 0 ⟨#[]⟩ O,j+V)):=S.out;have Z:=gQq (fun w1 (o:Aside (fun i=>i=R) W w1) (J:aD L w1 A R (l.drop j))=>ol x a9.out m ca (l.drop j) A R w1 _ ((a6.out.aside z.out.aside).aside o) J);unfold an at Z;obtain⟨a5,bk⟩:∃a5,a5=Sch.rdN (Sch.rdV x) m (l.drop j):=⟨_,rfl⟩;rw[<-bk] at U Z;clear S bk a7 a9 a6;cases a5 with
    |error er=>
      have ak:Hid (∀w1 y,Aside (fun i=>i=R) W w1->Aside (fun i=>i=R) w1 y->bI L w A R l r (isV w) (.panicked (dK er)) y):=fun w1 y o b9=>by
        have e:r=.error er:=U.out;rw[e];exact⟨rfl,(z.out.aside.trans o (fun _ _ h=>h)).trans b9 (fun _ _ h=>h)⟩
      clear U;go_enter Tryz.func233,Tryz.ntmps233;go_wp2_with fail;rw[<-a1.out]
      go_region_law (first
        | (refine aP (.tmp 8) 219 (by rfl) (by rfl) (by rfl) Tryz.func252 (by kernel_rfl) (by rfl) Y.out ?_;intro e w1 E;obtain⟨v,M,K,J,o⟩:=E.good;clear E
           replace K:v=.int .i64 (m:Nat):=K
           subst K;refine⟨_,M,?_⟩;clear M;have X:=gQq o;have a0:=gQq J;obtain⟨br,bs,bN,bO⟩:=aj.out w1 o;have I:=gQq (z.out.step o J ah);have c7:w1.cell? ⟨w.1.size+1,0,none⟩=some (.int .i64 0):=aa I.out.b1 0;have dc:w1.frozen? ⟨w.1.size+1,0,none⟩=false:=ac I.out.b1 0;have c8:w1.cell? ⟨w.1.size+1,1,none⟩=some (.int .i64 0):=aa I.out.b1 1;have dd:w1.frozen? ⟨w.1.size+1,1,none⟩=false:=ac I.out.b1 1;have c9:w1.cell? ⟨w.1.size+1,2,none⟩=some (.float .f64 0):=aa I.out.b1 2;have de:w1.frozen? ⟨w.1.size+1,2,none⟩=false:=ac I.out.b1 2;have da:w1.cell? ⟨w.1.size+1,3,none⟩=some (.string ⟨#[]⟩):=aa I.out.b1 3;have df:w1.frozen? ⟨w.1.size+1,3,none⟩=false:=ac I.out.b1 3;have db:w1.cell? ⟨w.1.size+1,4,none⟩=some (.slice none 0 0):=aa I.out.b1 4;have dh:w1.frozen? ⟨w.1.size+1,4,none⟩=false:=ac I.out.b1 4;clear o J)
        | (refine cL (.tmp 7) (.tmp 9) (.tmp 13) 219 3 34 (by rfl) (by rfl) (by rfl) (by rfl) (by rfl) Tryz.func257 (by kernel_rfl) (by rfl) (Z.out w1 X.out a0.out) (fun e y E=>⟨_,E.bad.1,rfl,ak.out w1 y X.out E.bad.2⟩) (.slice none 0 0) ?_;intro ab))
      all_goals exact ab.out.elim
    |ok vj=>
      obtain⟨O,V⟩:=vj;have b4:Hid (r=.ok (.mk 6 0 0 ⟨#[]⟩ O,j+V)):=U.out;clear U;go_enter Tryz.func233,Tryz.ntmps233;go_wp2_with fail;rw[<-a1.out]
      go_region_law (first
        | (refine aP (.tmp 8) 219 (by rfl) (by rfl) (by rfl) Tryz.func252 (by kernel_rfl) (by rfl) Y.out ?_;intro e w1 E;obtain⟨v,M,K,J,o⟩:=E.good;clear E
           replace K:v=.int .i64 (m:Nat):=K
           subst K;refine⟨_,M,?_⟩;clear M;have X:=gQq o;have a0:=gQq J;obtain⟨br,bs,bN,bO⟩:=aj.out w1 o;have I:=gQq (z.out.step o J ah);clear o J)
        | (refine bU (.tmp 7) (.tmp 9) (.tmp 13) 219 3 34 (by rfl) (by rfl) (by rfl) (by rfl) (by rfl) Tryz.func257 (by kernel_rfl) (by rfl) (Z.out w1 X.out a0.out) ?_;intro e y E;obtain⟨v,M,K,J,o⟩:=E.good;obtain⟨bq,bb,cb,bn⟩:=K.open;clear E K;subst cb;refine⟨_,M,?_⟩;clear M;have D:=gQq (I.out.step o J ah);have b3:=gQq bn;have co:=I.out.size;have cp:=o.size;have cq:y.cell? ⟨w.1.size,0,none⟩=some (.int .i64 6):=aa D.out.b0 0;have di:y.cell? ⟨w.1.size+1,0,none⟩=some (.int .i64 0):=aa D.out.b1 0;have dr:y.frozen? ⟨w.1.size+1,0,none⟩=false:=ac D.out.b1 0;have dj:y.cell? ⟨w.1.size+1,1,none⟩=some (.int .i64 0):=aa D.out.b1 1;have ds:y.frozen? ⟨w.1.size+1,1,none⟩=false:=ac D.out.b1 1;have dk:y.cell? ⟨w.1.size+1,2,none⟩=some (.float .f64 0):=aa D.out.b1 2;have dv:y.frozen? ⟨w.1.size+1,2,none⟩=false:=ac D.out.b1 2;have dn:y.cell? ⟨w.1.size+1,3,none⟩=some (.string ⟨#[]⟩):=aa D.out.b1 3;have d0:y.frozen? ⟨w.1.size+1,3,none⟩=false:=ac D.out.b1 3;have dp:y.cell? ⟨w.1.size+1,4,none⟩=some (.slice none 0 0):=aa D.out.b1 4;have d1:y.frozen? ⟨w.1.size+1,4,none⟩=false:=ac D.out.b1 4;clear o J bn))
      all_goals
        have b2:=gQq (kp (k:=6) (i:=0) (b:=0) (t:=⟨#[]⟩) (q:=bq) (n:=O.length) (c:=bb) (x:=.mk 6 0 0 ⟨#[]⟩ O) (N:=w.1.size+1) ah (by omega) D.out.b1 (b3.out 6) (fun i ck=>⟨by omega,by omega⟩) D.out.rd D.out.aside);clear ce cf cg ci br bs bN bO;go_wp2;obtain⟨f1,b6,b7,b8⟩:=b2.out;refine bodyPost_ret (v:=.agg (cells5 6 0 0 ⟨#[]⟩ bq O.length bb)) (results_cell_row rfl _ _ (w.1.size+1) _ _ _ _ rfl f1 Tryz.underlying38 rfl (by kernel_rfl)) rfl ?_;rw[b4.out];refine⟨_,rfl,b6,?_,b8⟩;rw[<-List.drop_drop];exact b7
theorem sd(x:Ty)(bj:ik x)(l:L8)(A R:Nat)(w:World)(u:AV)(a7:cG w R u (.mk 7 [x]))(h:aD L w A R l):Calls Tryz.prog 234 #[.pointer (some ⟨R,0,none⟩),.agg u] w (bI L w A R l (Sch.rdV (.mk 7 [x]) l) (isV w)):=by
  have ab:=h.lt;obtain⟨g,off,c,k',b8,n',bX,rfl,a8,b9,bb,bn,bp⟩:=a7.one;unfold an;obtain⟨W,ah⟩:∃W,W=(w.alloc (.cells #[.int .i64 7,.slice (some ⟨g,off,none⟩) 1 c] 34)).alloc (.cells #[.int .i64 0,.int .i64 0,.float .f64 0,.string ⟨#[]⟩,.slice none 0 0] 38):=⟨_,rfl⟩;have I:Hid (aY L w W A R #[.int .i64 7,.slice (some ⟨g,off,none⟩) 1 c] l):=by rw[ah];exact bf _ h
  have Z:=gQq ah;obtain⟨r,ak⟩:∃r,r=Sch.rdV (.mk 7 [x]) l:=⟨_,rfl⟩;have a4:=gQq (ak.trans (mu 7 (by omega) x l));rw[<-ak];have V:Hid (r=ar (aS 256 3 l) fun m j=>ar (Sch.rdN (Sch.rdV x) m (l.drop j)) fun J X=>.ok (.mk 7 0 0 ⟨#[]⟩ J,j+X)):=by show _=_;rw[a4.out,uI]
  have U:=gQq (oG 256 3 (by omega) l A R W I.out.rd);have a2:=gQq a8;have a5:=gQq bj;have a1:Hid (∀M,Aside (fun i=>i=R) W M->M.cell? ⟨w.1.size,0,none⟩=some (.int .i64 7)∧M.cell? ⟨w.1.size,1,none⟩=some (.slice (some ⟨g,off,none⟩) 1 c)∧M.cell? ⟨g,off,none⟩=some (.int .i64 k')∧M.cell? ⟨g,off+1,none⟩=some (.slice b8 n' bX)):=fun M o=>by
    have ca:=I.out.size;have a9:g<W.1.size:=(by omega);refine⟨?_,?_,?_,?_⟩
    · rw[o.cell (show w.1.size<W.1.size by omega) (show ¬w.1.size=R by omega)];exact aa I.out.b0 0
    · rw[o.cell (show w.1.size<W.1.size by omega) (show ¬w.1.size=R by omega)];exact aa I.out.b0 1
    · rw[o.cell (show g<W.1.size from a9) (show ¬g=R by omega),I.out.aside.cell bb (show ¬g=R by omega)];exact bn
    · rw[o.cell (show g<W.1.size from a9) (show ¬g=R by omega),I.out.aside.cell bb (show ¬g=R by omega)];exact bp
  obtain⟨b7,aj⟩:∃m,m=aS 256 3 l:=⟨_,rfl⟩;rw[<-aj] at V U;have a3:=gQq aj;clear ak aj h ah a8 bj bn bp a7 a4;cases b7 with
  |error er=>
    have K:Hid (r=.error er):=V.out;clear V;go_enter Tryz.func234,Tryz.ntmps234;go_wp2_with fail;rw[<-Z.out];refine U.out.mono ?_;intro e w1 E;obtain⟨O,o⟩:=E.bad;subst O;clear E;have bq:=gQq (I.out.aside.trans o (fun _ _ h=>h));clear o U;go_wp2;rw[K.out];exact⟨rfl,rfl,bq.out⟩
  |ok mj=>
    obtain⟨m,j⟩:=mj;have b5:m<=256:=count_le a3.out.symm;have K:Hid (r=ar (Sch.rdN (Sch.rdV x) m (l.drop j)) fun J X=>.ok (.mk 7 0 0 ⟨#[]⟩ J,j+X)):=V.out;clear V a3;go_enter Tryz.func234,Tryz.ntmps234;go_wp2_with fail;rw[<-Z.out];refine U.out.mono ?_;intro e w1 E;obtain⟨v,O,S,Q,o⟩:=E.good;clear E
    replace S:v=.int .i64 (m:Nat):=S
    subst S;subst O;obtain⟨c7,c8,c9,da⟩:=a1.out w1 o;have z:=gQq (I.out.step o Q ab);have Y:=gQq (ol x a5.out m b5 (l.drop j) A R w1.drew _ (((a2.out.aside I.out.aside).aside o).on gQz.drew) Q.drew);unfold an at Y;have ce:w1.cell? ⟨w.1.size+1,0,none⟩=some (.int .i64 0):=aa z.out.b1 0;have ck:w1.frozen? ⟨w.1.size+1,0,none⟩=false:=ac z.out.b1 0;have cf:w1.cell? ⟨w.1.size+1,1,none⟩=some (.int .i64 0):=aa z.out.b1 1;have cn:w1.frozen? ⟨w.1.size+1,1,none⟩=false:=ac z.out.b1 1;have cg:w1.cell? ⟨w.1.size+1,2,none⟩=some (.float .f64 0):=aa z.out.b1 2;have co:w1.frozen? ⟨w.1.size+1,2,none⟩=false:=ac z.out.b1 2;have ci:w1.cell? ⟨w.1.size+1,3,none⟩=some (.string ⟨#[]⟩):=aa z.out.b1 3;have cp:w1.frozen? ⟨w.1.size+1,3,none⟩=false:=ac z.out.b1 3;have cj:w1.cell? ⟨w.1.size+1,4,none⟩=some (.slice none 0 0):=aa z.out.b1 4;have cq:w1.frozen? ⟨w.1.size+1,4,none⟩=false:=ac z.out.b1 4;clear o Q U Z a1 a2 a5;obtain⟨a0,be⟩:∃a0,a0=Sch.rdN (Sch.rdV x) m (l.drop j):=⟨_,rfl⟩;rw[<-be] at K Y;clear be;cases a0 with
    |error er=>
      have br:Hid (r=.error er):=K.out;clear K;go_wp2_with fail
      go_region_law (first|(refine cL (.tmp 10) (.tmp 11) (.tmp 15) 219 3 34 (by rfl) (by rfl) (by rfl) (by rfl) (by rfl) Tryz.func257 (by kernel_rfl) (by rfl) Y.out (fun e D E=>⟨_,E.bad.1,rfl,by rw[br.out];exact⟨rfl,z.out.aside.drew.trans E.bad.2 (fun _ _ h=>h)⟩⟩) (.slice none 0 0) ?_;intro bs)|fail)
      all_goals exact bs.out.elim
    |ok vj=>
      obtain⟨J,X⟩:=vj;have bT:Hid (r=.ok (.mk 7 0 0 ⟨#[]⟩ J,j+X)):=K.out;clear K;go_wp2_with fail
      go_region_law (first|(refine bU (.tmp 10) (.tmp 11) (.tmp 15) 219 3 34 (by rfl) (by rfl) (by rfl) (by rfl) (by rfl) Tryz.func257 (by kernel_rfl) (by rfl) Y.out ?_;intro e D E;obtain⟨v,O,S,Q,o⟩:=E.good;obtain⟨bk,a6,b6,bi⟩:=S.open;clear E S;subst b6;refine⟨_,O,?_⟩;clear O;have y:=gQq (z.out.drew.step o Q ab);have bO:=gQq bi;have cb:=z.out.size;have cc:=o.size;have cd:D.cell? ⟨w.1.size,0,none⟩=some (.int .i64 7):=aa y.out.b0 0;have cr:D.cell? ⟨w.1.size+1,0,none⟩=some (.int .i64 0):=aa y.out.b1 0;have cw:D.frozen? ⟨w.1.size+1,0,none⟩=false:=ac y.out.b1 0;have cs:D.cell? ⟨w.1.size+1,1,none⟩=some (.int .i64 0):=aa y.out.b1 1;have cx:D.frozen? ⟨w.1.size+1,1,none⟩=false:=ac y.out.b1 1;have ct:D.cell? ⟨w.1.size+1,2,none⟩=some (.float .f64 0):=aa y.out.b1 2;have cy:D.frozen? ⟨w.1.size+1,2,none⟩=false:=ac y.out.b1 2;have cu:D.cell? ⟨w.1.size+1,3,none⟩=some (.string ⟨#[]⟩):=aa y.out.b1 3;have c5:D.frozen? ⟨w.1.size+1,3,none⟩=false:=ac y.out.b1 3;have cv:D.cell? ⟨w.1.size+1,4,none⟩=some (.slice none 0 0):=aa y.out.b1 4;have c6:D.frozen? ⟨w.1.size+1,4,none⟩=false:=ac y.out.b1 4;clear o Q bi)|fail)
      all_goals
        have bN:=gQq (kp (k:=7) (i:=0) (b:=0) (t:=⟨#[]⟩) (q:=bk) (n:=J.length) (c:=a6) (x:=.mk 7 0 0 ⟨#[]⟩ J) (N:=w.1.size+1) ab (by omega) y.out.b1 (bO.out 7) (fun i bc=>⟨by have:=bc.1;have:w1.drew.1.size=w1.1.size:=rfl;omega,bc.2⟩) y.out.rd y.out.aside);go_wp2;obtain⟨f1,b2,b3,b4⟩:=bN.out;refine bodyPost_ret (v:=.agg (cells5 7 0 0 ⟨#[]⟩ bk J.length a6)) (results_cell_row rfl _ _ (w.1.size+1) _ _ _ _ rfl f1 Tryz.underlying38 rfl (by kernel_rfl)) rfl ?_;rw[bT.out];refine⟨_,rfl,b2,?_,b4⟩;rw[<-List.drop_drop];exact b3
end
end
section
open Go.RowKit
attribute [local go_sem] af
theorem qo{F:Nat->Prop}{i:Int}{b:Nat}{t:ByteArray}{p:OA}{c:Nat}{x:V}(h:aO w F #[.int .i64 k,.int .i64 i,.float .f64 b,.string t,.slice p n c] x):aO w F (cells5 k i b t p n c) x:=h
section
variable {L:L8}
theorem dt(k:Nat)(f:FuncId)(bk:k<8)(ab:li[k]?=some (.func (.func f) #[] #[]))(l:L8)(A R:Nat)(w:World)(p:OA)(n c:Nat)(h:aD L w A R l)(Q:Except Nat (V×Nat))(X:∀(args:AV) (w:World),(callFunc f args).run Tryz.prog w=.ok (.enter f args) w)(Z:∀w',Below w.1.size w w'->aD L w' A R l->Calls Tryz.prog f #[.pointer (some ⟨R,0,none⟩),.agg #[.int .i64 k,.slice p n c]] w' (bI L w' A R l Q (isV w'))):
    Calls Tryz.prog 141 #[.pointer (some ⟨R,0,none⟩),.agg #[.int .i64 k,.slice p n c]] w (bI L w A R l Q (isV w)):=by
  have Y:=h.lt;obtain⟨W,E⟩:∃W,W=(w.alloc (.cells #[.int .i64 k,.slice p n c] 34)).alloc (.cells #[.int .i64 0,.int .i64 0,.float .f64 0,.string ⟨#[]⟩,.slice none 0 0] 38):=⟨_,rfl⟩;have o:Hid (aY L w W A R #[.int .i64 k,.slice p n c] l):=by rw[E];exact bf _ h
  have ak:Hid (Below w.1.size w W):=by rw[E];exact gQy.alloc (by simp) _
  obtain⟨T,bO,bi,a,J,-⟩:=o.out.rd.out;have c0:W.cell? ⟨R,0,none⟩=some (.slice (some ⟨T,0,none⟩) 8 8):=aa J.b0 0;have bj:W.cell? ⟨T,k,none⟩=some (.func (.func f) #[] #[]):=(aa J.b1 k).trans ab;have bs:W.cell? ⟨w.1.size,0,none⟩=some (.int .i64 k):=aa o.out.b0 0;have bN:W.cell? ⟨w.1.size,1,none⟩=some (.slice p n c):=aa o.out.b0 1;have bn:(k:Int)<8:=by omega
  have S:=gQq (Z W.drew ak.out.drew o.out.rd.drew);have U:=gQq X;have D:=gQq E;obtain⟨bT,bX,b2,b3,b4⟩:=cQ5 o.out.b1;have b5:=ac o.out.b1 0;have b6:=ac o.out.b1 1;have b7:=ac o.out.b1 2;have b8:=ac o.out.b1 3;have b9:=ac o.out.b1 4;clear h E Z X J ab;cases Q with
  |error er=>
    go_enter Tryz.func141,Tryz.ntmps141;go_wp2_with fail;rw[<-D.out];clear D
    go_region_law (first|(refine l9 (.tmp 12) (.tmp 13) (.tmp 14) 219 34 (by rfl) (by rfl) (by rfl) (by rfl) (by rfl) U.out S.out (fun e w1 z=>⟨_,z.bad.1,rfl,rfl,o.out.aside.drew.trans z.bad.2 (fun _ _ h=>h)⟩) (.agg #[.int .i64 0,.int .i64 0,.float .f64 0,.string ⟨#[]⟩,.slice none 0 0]) ?_;intro a0)|fail)
    all_goals exact a0.out.elim
  |ok xj=>
    obtain⟨x,j⟩:=xj;go_enter Tryz.func141,Tryz.ntmps141;go_wp2_with fail;rw[<-D.out];clear D
    go_region_law (first|(refine iR (.tmp 12) (.tmp 13) (.tmp 14) 219 34 (by rfl) (by rfl) (by rfl) (by rfl) (by rfl) U.out S.out ?_;intro e w1 z;obtain⟨v,M,O,aj,K⟩:=z.good;obtain⟨u,O,I⟩:=O.open;clear z;obtain⟨bb,a9,a3,be,bc,n9,a4,a8⟩:=I.shape;subst a8;subst O;unfold cells5 at M I;refine⟨_,M,?_⟩;clear M;have y:=gQq (o.out.drew.step K aj Y);have a2:=gQq I;have bq:=o.out.size;have bp:=K.size;obtain⟨ca,cb,cc,cd,ce⟩:=cQ5 y.out.b1;have cf:=ac y.out.b1 0;have cg:=ac y.out.b1 1;have ci:=ac y.out.b1 2;have cj:=ac y.out.b1 3;have ck:=ac y.out.b1 4;clear K aj I)|fail)
    all_goals
      have br:W.drew.1.size=W.1.size:=rfl;have a1:=gQq (kp (N:=w.1.size+1) Y (by omega) y.out.b1 (qo a2.out) (fun i ah=>⟨by have:=ah.1;omega,ah.2⟩) y.out.rd y.out.aside);go_wp2;obtain⟨f1,a5,a6,a7⟩:=a1.out;refine bodyPost_ret (v:=.agg (cells5 bb a9 a3 be bc n9 a4)) (results_cell_row rfl _ _ (w.1.size+1) _ _ _ _ rfl f1 Tryz.underlying38 rfl (by kernel_rfl)) rfl ?_;exact⟨_,rfl,a5,a6,a7⟩
theorem ya:∀(t:Ty) (d:Nat),Ty.check d t=0->ik t:=by
 intro t;refine Ty.ind (P:=fun t=>∀(d:Nat),Ty.check d t=0->ik t) ?_ t;rintro k ab V d hd L l A R w u y o;obtain⟨X,Y,S⟩:=Sch.ty_open hd;rcases S with ⟨I,rfl⟩ | ⟨I,E,rfl,U⟩
 ·obtain⟨k',p,n,c,z⟩:=y.shape;have Q:k'=k:=by
   obtain⟨w0,M,-⟩:=y.out;obtain⟨p2,c2,D,-⟩:=M.open;rw[z] at D;unfold an at D;simp only[Array.mk.injEq,List.cons.injEq,Value.int.injEq,true_and] at D;exact D.1
  subst Q z;unfold an;have O:k'=1∨k'=2∨k'=3∨k'=4∨k'=5:=by omega
  have e:Sch.rdV (.mk k' []) l=Sch.scalar k' l:=by rw[Sch.rdV_mk,if_pos (by omega)]
  rw[e];rcases O with h | h | h | h | h <;> subst h
  ·exact dt 1 228 (by omega) rfl l A R w p n c o _ (enters Tryz.func228 (by kernel_rfl) rfl) (fun w' _ h=>sf l A R w' p n c h)
  ·exact dt 2 229 (by omega) rfl l A R w p n c o _ (enters Tryz.func229 (by kernel_rfl) rfl) (fun w' _ h=>tT l A R w' p n c h)
  ·exact dt 3 230 (by omega) rfl l A R w p n c o _ (enters Tryz.func230 (by kernel_rfl) rfl) (fun w' _ h=>pM l A R w' p n c h)
  ·exact dt 4 231 (by omega) rfl l A R w p n c o _ (enters Tryz.func231 (by kernel_rfl) rfl) (fun w' _ h=>sa l A R w' p n c h)
  ·have K:Sch.scalar 5 l=iI 5 l:=nw l;rw[K];exact dt 5 232 (by omega) rfl l A R w p n c o _ (enters Tryz.func232 (by kernel_rfl) rfl) (fun w' _ h=>jX 5 l A R w' p n c h)
 ·obtain⟨g,off,c,k',Z,n',W,z,-⟩:=y.one;have J:=V E (by simp) (d+1) U;subst z;unfold an at y ⊢;rcases I with h | h <;> subst h
  ·exact dt 6 233 (by omega) rfl l A R w _ _ c o _ (enters Tryz.func233 (by kernel_rfl) rfl) (fun w' hb h=>tS E J l A R w' _ (y.on hb) h)
  ·exact dt 7 234 (by omega) rfl l A R w _ _ c o _ (enters Tryz.func234 (by kernel_rfl) rfl) (fun w' hb h=>sd E J l A R w' _ (y.on hb) h)
end
end
section
open Go.RowKit
attribute [local go_sem] af
theorem fB(w:World):Calls Tryz.prog 195 #[] w fun e w'=>e=.returned (.slice (some ⟨w.1.size,0,none⟩) 8 8)∧w'=w.alloc (.cells li 268):=by
 go_enter Tryz.func195,Tryz.ntmps195;go_wp2_with fail;go_ret;exact⟨rfl,rfl⟩
theorem aD.set{L:L8}(h:aD L w A R l){j:Nat}{C:AV}{W:TypeId}{fr:Nat×Nat}(U:w.1[j]?=some (.cells C W fr))(D:C.size≠8)(Y:j≠R)(X:A<=j)(m:Nat)(u:Value):aD L (w.setCell ⟨j,m,none⟩ u) A R l:=by
 obtain⟨T,p,c,a,o,E⟩:=h.out;have Z:T≠j:=by
  intro Q;have:=o.b1;rw[Q,U] at this;injection this with this;injection this with this;rw[this] at D;exact D rfl
 have y:Aside (fun i=>i=j) w (w.setCell ⟨j,m,none⟩ u):=ag _ _ _ _;have J:=au o.b0;have K:=au o.b1;refine⟨⟨T,p,c,a,⟨(y.block R J (by omega)).trans o.b0,(y.block T K (by omega)).trans o.b1,?_,o.cap,o.far,o.tab,o.pos⟩,E⟩,h.small,h.low⟩;rcases o.lies with I | ⟨b,V,rfl,hb,O⟩
 ·exact .inl I
 ·by_cases z:L=[]
  ·exact .inl z
  ·have M:=o.far z _ rfl;refine .inr ⟨b,V,rfl,Nat.lt_of_lt_of_le hb y.size,fun i S=>?_⟩;rw[World.cell?_of_block (w:=w) (y.block b hb (by show ¬b=j;simp only at M;omega))];exact O i S
def lX(w:World)(A:Nat)(l:L8)(a:Int)(e:Ending)(w':World):Prop :=
 if a<0∨(l.length:Int)<a then e=.panicked (dK 30)∧Below w.1.size w w'
 else e=.returned (.pointer (some ⟨w.1.size+1,0,none⟩))∧aD l w' A (w.1.size+1) (l.drop a.toNat)∧Below w.1.size w w'∧w.1.size+2<=w'.1.size
theorem se(l:L8)(q:OA)(c:Nat)(a:Int)(A:Nat)(w:World)(Z:l.length<=140737488351232)(ab:l.length<=c)(O:At w q l)(aj:A<=w.1.size)(Q:l≠[]->∀d,q=some d->d.block<A)(ak:-9223372036854775808<=a)(a0:a<=9223372036854775807):
  Calls Tryz.prog 140 #[.slice q l.length c,.int .i64 a] w (lX w A l a):=by
 obtain⟨W,z⟩:∃W,W=(w.alloc (.cells li 268)).alloc (.cells #[.slice (some ⟨w.1.size,0,none⟩) 8 8,.slice q l.length c,.int .i64 a] 224):=⟨_,rfl⟩;have D:Hid (Below w.1.size w W):=by rw[z];exact gQy.alloc (by simp) _
 have S:W.1.size=w.1.size+2:=by rw[z];simp
 have J:W.1[w.1.size+1]?=some (.cells #[.slice (some ⟨w.1.size,0,none⟩) 8 8,.slice q l.length c,.int .i64 a] 224 (0,0)):=by
  have:=am (w.alloc (.cells li 268)) (.cells #[.slice (some ⟨w.1.size,0,none⟩) 8 8,.slice q l.length c,.int .i64 a] 224);rw[z];simpa using this
 have K:W.1[w.1.size]?=some (.cells li 268 (0,0)):=by
  rw[z,aG _ _ (by simp)];exact am w _
 have E:Hid (¬(a<0∨(l.length:Int)<a)->aD l W A (w.1.size+1) (l.drop a.toNat)):=fun y=>by
  have X:((a.toNat:Nat):Int)=a:=by omega
  exact⟨⟨w.1.size,q,c,a.toNat,⟨by rw[X];exact J,K,O.on D.out,ab,Q,by omega,by omega⟩,rfl⟩,Z,by omega⟩
 have V:=gQq S;have I:=gQq z;clear z J K O Q S;by_cases y:a<0∨(l.length:Int)<a
 ·have e:lX w A l a=fun e w'=>e=.panicked (dK 30)∧Below w.1.size w w':=by
   funext e w';unfold lX;rw[if_pos y]
  rw[e];clear e;by_cases ah:a<0
  ·have M:decide (0<=a)=false:=decide_eq_false (by omega);clear y E;go_enter Tryz.func140,Tryz.ntmps140;go_wp2_with fail;refine(fB _).mono ?_;rintro e w1 ⟨rfl,o⟩;rw[o];clear o w1;go_wp2_with fail;rw[<-I.out];refine(cT _ 30 _).mono ?_;rintro e w1 ⟨rfl,o⟩;rw[o];clear o w1;go_wp2;exact⟨rfl,rfl,D.out⟩
  ·have M:decide (0<=a)=true:=decide_eq_true (by omega);have Y:decide (a<=(l.length:Int))=false:=decide_eq_false (by omega);clear y E;go_enter Tryz.func140,Tryz.ntmps140;go_wp2_with fail;refine(fB _).mono ?_;rintro e w1 ⟨rfl,o⟩;rw[o];clear o w1;go_wp2_with fail;rw[<-I.out];refine(cT _ 30 _).mono ?_;rintro e w1 ⟨rfl,o⟩;rw[o];clear o w1;go_wp2;exact⟨rfl,rfl,D.out⟩
 ·have e:lX w A l a=fun e w'=>e=.returned (.pointer (some ⟨w.1.size+1,0,none⟩))∧aD l w' A (w.1.size+1) (l.drop a.toNat)∧Below w.1.size w w'∧w.1.size+2<=w'.1.size:=by
   funext e w';unfold lX;rw[if_neg y]
  rw[e];clear e;have M:decide (0<=a)=true:=decide_eq_true (by omega);have Y:decide (a<=(l.length:Int))=true:=decide_eq_true (by omega);have U:=gQq (E.out y);clear E y;go_enter Tryz.func140,Tryz.ntmps140;go_wp2_with fail;refine(fB _).mono ?_;rintro e w1 ⟨rfl,o⟩;rw[o];clear o w1;go_wp2_with fail;rw[<-I.out];refine(dI _ 30 _).mono ?_;rintro e w1 ⟨rfl,o⟩;rw[o];clear o w1;go_wp2;go_ret;exact⟨rfl,U.out,D.out,by rw[V.out];exact gQx⟩
def fI(w:World)(g o:Nat)(k i:Int)(b:Nat)(t:ByteArray)(s:Value):World:=((((w.setCell ⟨g,o,none⟩ (.int .i64 k)).setCell ⟨g,o+1,none⟩ (.int .i64 i)).setCell ⟨g,o+2,none⟩ (.float .f64 b)).setCell ⟨g,o+3,none⟩ (.string t)).setCell ⟨g,o+4,none⟩ s
theorem oe(w:World)(g o:Nat)(k i:Int)(b:Nat)(t:ByteArray)(s:Value):Aside (fun j=>j=g) w (fI w g o k i b t s):=by
 have y:Aside (fun j=>j=g) w (w.setCell ⟨g,o,none⟩ (.int .i64 k)):=ag _ _ _ _;have z:=y.trans (ag _ g (o+1) (.int .i64 i)) (fun _ _ h=>h);have D:=z.trans (ag _ g (o+2) (.float .f64 b)) (fun _ _ h=>h);have E:=D.trans (ag _ g (o+3) (.string t)) (fun _ _ h=>h);exact E.trans (ag _ g (o+4) s) (fun _ _ h=>h)
theorem pX(w:World)(g o:Nat)(k i:Int)(b:Nat)(t:ByteArray)(s:Value):(fI w g o k i b t s).1.size=w.1.size:=by simp[fI,World.setCell]
theorem pY{B g cap:Nat}{xs:List Value}{z0 z1 z2 z3 z4:Value}(D:xs.length=n*5)(h:w.ownsRow B 38 5 (.slice (some ⟨g,0,none⟩) (n+1) cap) (n+1) (xs++[z0,z1,z2,z3,z4]))(k i:Int)(b:Nat)(t:ByteArray)(q:OA)(m c:Nat):
  (∀j,j<5->∃Y,w.cell? ⟨g,n*5+j,none⟩=some Y)∧(∀j,w.frozen? ⟨g,j,none⟩=false) ∧
  (fI w g (n*5) k i b t (.slice q m c)).ownsRow B 38 5 (.slice (some ⟨g,0,none⟩) (n+1) cap) (n+1) (xs++(cells5 k i b t q m c).toList):=by
 rcases h.2 with ⟨M,_⟩ | ⟨ab,Z,y,X,hb,E,S,O,V,W⟩
 ·cases M
 ·injection X with hv1 _ hv2;injection hv1 with hv1;injection hv1 with hv1;subst hv1 hv2;have z:y.toList=xs++(z0::z1::z2::z3::z4::y.toList.drop ((n+1)*5)):=by
   have K:=(List.take_append_drop ((n+1)*5) y.toList).symm;rw[W,List.append_assoc] at K;exact K
  obtain⟨C⟩:=y;simp only at z;obtain⟨rest,U⟩:∃r,r=C.drop ((n+1)*5):=⟨_,rfl⟩;rw[<-U] at z;have o:∀(I:List Value) (j:Nat) (v:Value),(xs++I).set (n*5+j) v=xs++I.set j v:=fun I j v=>by
   rw[<-D,List.set_append_right _ _ (by omega),Nat.add_sub_cancel_left]
  refine⟨fun j ah=>?_,fun j=>ac E j,?_,.inr ⟨g,cap,_,rfl,hb,ai (ai (ai (ai (ai E (n*5) (.int .i64 k)) (n*5+1) (.int .i64 i)) (n*5+2) (.float .f64 b)) (n*5+3) (.string t)) (n*5+4) (.slice q m c),S,O,by simpa using V,?_⟩⟩
  ·have Q:n*5+j<C.length:=(by rw[z,List.length_append,D];simp;omega);exact⟨C[n*5+j],by rw[cell_of_row w g (n*5+j) ⟨C⟩ 38 (0,0) E];simp[Q]⟩
  ·rw[List.length_append,D];unfold cells5;simp;omega
  ·have J:=o (z0::z1::z2::z3::z4::rest) 0;simp only[Nat.add_zero] at J;simp only[Array.set!_eq_setIfInBounds,Array.toList_setIfInBounds];rw[z,J,o,o,o,o];unfold cells5;have e:(n+1)*5=xs.length+5:=(by rw[D];omega);rw[e,List.take_append,List.take_of_length_le (by omega),Nat.add_sub_cancel_left];simp
end
end Go.Proofs.YtbahfgdbjgkklaaGreatDoor
