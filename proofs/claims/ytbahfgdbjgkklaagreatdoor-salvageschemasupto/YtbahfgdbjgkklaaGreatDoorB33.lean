import Derived.Test.YtbahfgdbjgkklaaGreatDoorB16
import Derived.Test.YtbahfgdbjgkklaaGreatDoorB27
import Derived.Deep.RegionLaw
import Derived.Test.YtbahfgdbjgkklaaGreatDoorB03
set_option maxRecDepth 100000
set_option maxHeartbeats 4000000
namespace Go.Proofs.YtbahfgdbjgkklaaGreatDoor
variable{A B c:Nat}{w:World}{l:L8}
section
open Go.RowKit
def ba(p:OA)(n c:Nat):OA:=if c=n then p else p.map (·.add n)
theorem bY(o:IntKind)(p:OA)(len c n:Nat)(h:n<=len)(w:World):(Instr.slice 22 (.slice p len c) (some (.int o n)) none none).run Tryz.prog w=.ok (.slice (ba p n c) (len-n) (c-n)) w:=by
 have y:(sizeOf (Tryz.prog.elem 22)).run Tryz.prog w=.ok 1 w:=by kernel_rfl
 rw[run_slice_l w 22 p len c (by kernel_rfl) o (n:Int) (by omega) (by omega),y];simp[sliced,ba,Result.andThen]
theorem nH(o:IntKind)(p:OA)(len c n:Nat)(h:n<=c)(w:World):(Instr.slice 22 (.slice p len c) none (some (.int o n)) none).run Tryz.prog w=.ok (.slice (fX p c) n c) w:=by
 have y:(sizeOf (Tryz.prog.elem 22)).run Tryz.prog w=.ok 1 w:=by kernel_rfl
 rw[run_slice_h w 22 p len c (by kernel_rfl) o (n:Int) (by omega) (by omega),y];simp[sliced,fX,Result.andThen]
theorem je(a:Addr)(n:Nat):(a.add n).block=a.block:=by
 unfold Addr.add;split <;> rfl
theorem mG{p:OA}{n:Nat}(h:∀a,p=some a->a.block<A):∀a,ba p n c=some a->a.block<A:=by
 intro a o;unfold ba at o;split at o
 ·exact h a o
 ·cases p with
  |none=>cases o
  |some b=>
   simp only[Option.map_some,Option.some.injEq] at o;subst o;rw[je];exact h b rfl
theorem ql{p:OA}(h:∀a,p=some a->a.block<A):∀a,fX p c=some a->a.block<A:=by
 intro a o;unfold fX at o;split at o
 ·exact h a o
 ·cases p with
  |none=>cases o
  |some b=>
   simp only[Option.map_some,Option.some.injEq] at o;subst o;rw[je];exact h b rfl
theorem At.cut10{p:OA}(h:At w p l)(n c:Nat)(D:l.length<=c):At w (ba p n c) (l.drop n):=by
 by_cases o:l.length<=n
 ·exact .inl (List.drop_eq_nil_of_le o)
 ·obtain⟨b,z,rfl,hb,y⟩:=aC h (by omega);refine .inr ⟨b,z+n,?_,hb,cF y n⟩;unfold ba;rw[if_neg (by omega),Option.map_some,Lib.add_plain]
structure AtB(w:World)(B:Nat)(p:OA)(l:L8):Prop where
 at_:At w p l
 low:l≠[]->∀a,p=some a->a.block<B
theorem AtB.keep{w':World}{p:OA}(h:AtB w B p l)(hb:Below B w w'):AtB w' B p l:=by
 refine⟨?_,h.low⟩;rcases h.at_ with rfl | ⟨b,z,rfl,D,o⟩
 ·exact .inl rfl
 ·refine .inr ⟨b,z,rfl,by have:=hb.size;omega,fun j y=>?_⟩;rw[World.cell?_of_block (w:=w) (hb.block b (h.low (List.ne_nil_of_length_pos (by omega)) _ rfl))];exact o j y
theorem AtB.cut{p:OA}(h:AtB w B p l)(n c:Nat)(o:l.length<=c):AtB w B (ba p n c) (l.drop n) :=
 ⟨h.at_.cut10 n c o,fun z=>mG (h.low (fun y=>z (by rw[y];simp)))⟩
theorem AtB.head{p:OA}(h:AtB w B p l)(n c:Nat):AtB w B (fX p c) (l.take n) :=
 ⟨h.at_.head n c,fun y=>ql (h.low (fun o=>y (by rw[o];simp)))⟩
theorem At.atB{p:OA}(h:At w p l){B:Nat}(z:w.1.size<=B):AtB w B p l:=by
 refine⟨h,fun y a o=>?_⟩;rcases h with rfl | ⟨b,I,rfl,E,D⟩
 ·exact absurd rfl y
 ·injection o with o;subst o;show b<B;omega
def vT(w:World)(B:Nat)(k:Blk.Tk)(e:Ending)(w':World):Prop :=
 ∃q m cap q' m' c',e=.returned (.tuple #[.slice q m cap,.slice q' m' c',.int .i64 (k.err:Nat)])∧(k.err=0->m=k.out.length∧Has w' B (.slice q m cap) k.out∧m'=k.rest.length∧k.rest.length<=c'∧AtB w' B q' k.rest)∧Below B w w'
theorem l8{v:Value}{xs:L8}{p:OA}(E:Has w B v xs)(h:At w p l)(S:xs.length+l.length<=140737488355328)(D:B<=w.1.size){I:Array Oper}{o:Oper}{a:Act}{z:Act->World->Prop}{K:Exit->Act->World->Prop}{J:Prop}(s x:Operand)(Z:o.type=22)(Q:o.guard=none)(V:o.op=Op.call { callee:=Callee.builtin Builtin.append,args:=#[s,x],argTypes:=#[22,22] })(Y:a.eval s=v)(ah:a.eval x=.slice p l.length c)(L:∀q cap W y,Hid (y=xs++l)->Has W B (.slice q y.length cap) y->Below B w W->z (a.put o.dst (.slice q y.length cap)) W):
  if Region.wanted o (yielded I a.tmps)=true then Oper.wp Tryz.prog o a w z K else J:=by
 have ab:Region.wanted o (yielded I a.tmps)=true:=by simp[Region.wanted,Q]
 rw[if_pos ab];obtain⟨q,cap,W,⟨X⟩,U,M,-,aj⟩:=eL B v xs l p c w E h S D;unfold Oper.wp;have O:(execOp a.eval o).run Tryz.prog w=.ok (.value (.slice q (xs++l).length cap)) W:=by
  simp only[execOp,V,resolve,invoke,builtin];simp[Y,ah,Z,X,Result.andThen]
 rw[O];exact L q cap W (xs++l) (gQq rfl) U (aB M E D)
theorem tG(out t:L8)(n:Nat)(bj:n<18446744073709551616)(B:Nat)(a2:Value)(q:OA)(c:Nat)(w:World)(a7:B<=w.1.size)(bk:out.length<=2048)(bn:t.length<=140737488351232)(a9:t.length<=c)(hb:Has w B a2 out)(ab:AtB w B q t):
    Calls Tryz.prog 136 #[a2,.slice q t.length c,.int .u64 n] w (vT w B (Blk.takeL out t n)):=by
  obtain⟨r,o⟩:∃r,r=Blk.takeL out t n:=⟨_,rfl⟩;rw[<-o];unfold Blk.takeL at o;obtain⟨p,cap,rfl,a8,bi⟩:=hb.at;have a4:=gQq hb;have S:=gQq ab;clear hb ab a8;by_cases U:n=0
  · subst U;rw[if_pos rfl] at o;have y:=gQq o;clear o;go_enter Tryz.func136,Tryz.ntmps136;go_wp2;try rw[Exit.noGoto_ret]
    go_ret3
    rw[y.out];exact⟨none,0,0,none,0,0,rfl,fun h=>(by cases h),gQz⟩
  · rw[if_neg U] at o;have be:((n:Int)==0)=false:=(by rw[beq_eq_false_iff_ne];omega);by_cases V:2048-out.length<n
    · rw[if_pos V] at o;have a6:(2048-(out.length:Int)) % 18446744073709551616<(n:Int):=(by omega);have y:=gQq o;clear o;go_enter Tryz.func136,Tryz.ntmps136;go_wp2;try rw[Exit.noGoto_ret]
      go_ret3
      rw[y.out];exact⟨none,0,0,none,0,0,rfl,fun h=>(by cases h),gQz⟩
    · rw[if_neg V] at o;have a6:¬(2048-(out.length:Int)) % 18446744073709551616<(n:Int):=(by omega);by_cases X:t.length<n
      · rw[if_pos X] at o;have y:=gQq o;clear o;go_enter Tryz.func136,Tryz.ntmps136;go_wp2;try rw[Exit.noGoto_ret]
        go_ret3
        rw[y.out];exact⟨none,0,0,none,0,0,rfl,fun h=>(by cases h),gQz⟩
      · rw[if_neg X] at o;have bb:=fun w=>nH .u64 q t.length c n (by omega) w;have K:=fun w=>bY .u64 q t.length c n (by omega) w;have a0:(t.take n).length=n:=(by rw[List.length_take];omega);have E:=gQq (S.out.head n c);have O:=gQq (S.out.cut n c a9);obtain⟨L,ak⟩:∃L,L=t.take n:=⟨_,rfl⟩;rw[<-ak] at a0 E o;obtain⟨J,ah⟩:∃J,J=fX q c:=⟨_,rfl⟩;obtain⟨a1,aj⟩:∃a1,a1=ba q n c:=⟨_,rfl⟩;obtain⟨D,I⟩:∃D,D=t.length-n:=⟨_,rfl⟩;obtain⟨c2,Z⟩:∃c2,c2=c-n:=⟨_,rfl⟩;rw[<-ah] at E bb;rw[<-aj] at O K;rw[<-I] at K;rw[<-Z] at K;have y:=gQq o;have Q:Hid (D=t.length-n∧D<=c2):=⟨I,by omega⟩;clear o ak ah aj I Z;subst a0;go_enter Tryz.func136,Tryz.ntmps136;go_wp2_with fail
        go_region_law (first|(refine l8 (B:=B) (v:=.slice p out.length cap) (xs:=out) (l:=L) (p:=J) (c:=c) (by exact a4.out) (by exact E.out.at_) (by omega) (by exact a7) (.tmp 25) (.tmp 28) (by rfl) (by rfl) (by rfl) (by simp[Act.eval,Act.put]) (by simp[Act.eval,Act.put]) ?_;intro bp bc W bq a5 Y z;have a3:=gQq Y;have M:Hid (Below B w W):=⟨z.os,z.tape,z.output,z.size,z.block⟩;clear Y z)|fail)
        all_goals
          go_wp2;try rw[Exit.noGoto_ret]
          go_ret3
          rw[y.out,<-a5.out];exact⟨_,_,_,_,_,_,rfl,fun _=>⟨rfl,a3.out,by rw[Q.out.1];simp,by have:=Q.out;simp;omega,O.out.keep M.out⟩,M.out⟩
end
section
open Go.RowKit
theorem lK(t:L8)(h:(Leb.get t).err≠0):eF t 0=.tuple #[.int .u64 0,.int .i64 0,.int .i64 ((Leb.get t).err:Nat)]:=by
 have hb:=Leb.getF_bad 10 true t h;refine cU t 0 _ h ?_;rw[List.drop_zero];show Leb.get t=_;obtain⟨z,D⟩:=hb;have o:(Leb.get t).n=0:=z;have y:(Leb.get t).k=0:=D;generalize Leb.get t=g at o y;cases g
 simp_all
theorem ot(t:L8)(h:(Leb.get t).err=0):eF t 0=.tuple #[.int .u64 ((Leb.get t).n:Nat),.int .i64 ((Leb.get t).k:Nat),.int .i64 0]:=by
 have:=gZ t 0 (Leb.get t).n (Leb.get t).k (by
  rw[List.drop_zero];generalize Leb.get t=g at h;cases g
  simp_all)
 rw[show((0:Nat):Int)=0 from rfl,Int.zero_add] at this;exact this
theorem eG(w:World)(B k:Nat)(o:k≠0):vT w B ⟨k,[],[]⟩ (.returned (.tuple #[.slice none 0 0,.slice none 0 0,.int .i64 (k:Nat)])) w :=
 ⟨none,0,0,none,0,0,rfl,fun h=>absurd h o,gQz⟩
theorem sJ{g cap:Nat}(h:bh w B g cap l)(i:Nat)(o:i<l.length):w.cell? ⟨g,i,none⟩=some (.int .u8 ((l.getD i 0).toNat:Int)):=by
 have:=h.free.2.1 i o;rw[Nat.zero_add] at this;rw[this,List.getD_eq_getElem?_getD,List.getElem?_eq_getElem o];rfl
theorem tF(out t:L8)(n:Nat)(co:n<18446744073709551616)(B:Nat)(bk:Value)(q:OA)(c:Nat)(w:World)(cd:B<=w.1.size)(cp:out.length<=2048)(b5:t.length<=140737488351232)(bi:t.length<=c)(hb:Has w B bk out)(ak:AtB w B q t):
  Calls Tryz.prog 137 #[bk,.slice q t.length c,.int .u64 n] w (vT w B (Blk.takeM out t n)):=by
 obtain⟨r,o⟩:∃r,r=Blk.takeM out t n:=⟨_,rfl⟩;rw[<-o];unfold Blk.takeM at o;have D:=gQq (g9 q c t 0 b5 bi w ak.at_);obtain⟨p,cap,rfl,b4,cg⟩:=hb.at;have bn:=gQq hb;have bq:=gQq ak;clear hb ak b4;by_cases U:n<4∨255<n
 ·rw[if_pos U] at o;have z:=gQq o;clear o;by_cases cc:n<4
  all_goals
   have ca:n<4∨255<n:=U;clear U;try have cb:255<n:=by omega
   go_enter Tryz.func137,Tryz.ntmps137;go_wp2;try rw[Exit.noGoto_ret]
   go_ret3
   rw[z.out];exact eG w B 5 (by decide)
 ·rw[if_neg U] at o;have b9:¬n<4:=by omega
  have b7:¬255<n:=by omega
  clear U;by_cases J:(Leb.get t).err≠0
  ·rw[if_pos J] at o;have S:Hid (eF t 0=.tuple #[.int .u64 0,.int .i64 0,.int .i64 ((Leb.get t).err:Nat)]):=lK t J;rw[S.out] at D;have bT:(((Leb.get t).err:Int)==0)=false:=(by rw[beq_eq_false_iff_ne];omega);obtain⟨ah,bb⟩:∃ah,ah=(Leb.get t).err:=⟨_,rfl⟩;rw[<-bb] at D bT o J;have z:=gQq o;clear o S bb;go_enter Tryz.func137,Tryz.ntmps137;go_wp2_with fail;refine D.out.mono ?_;rintro e w' ⟨rfl,y⟩;rw[y];clear y w';go_wp2;try rw[Exit.noGoto_ret]
   go_ret3
   rw[z.out];exact eG w B ah J
  ·rw[if_neg J] at o;have Y:=Leb.get_ok t (by omega);have S:Hid (eF t 0=.tuple #[.int .u64 ((Leb.get t).n:Nat),.int .i64 ((Leb.get t).k:Nat),.int .i64 0]):=ot t (by omega);rw[S.out] at D;obtain⟨d,hd⟩:∃d,d=(Leb.get t).n:=⟨_,rfl⟩;obtain⟨k,bc⟩:∃k,k=(Leb.get t).k:=⟨_,rfl⟩;rw[<-hd,<-bc] at D o Y;have ci:=Y.1;have cn:=Y.2.2.1;clear S hd bc J Y;by_cases K:d=0∨1024<d∨out.length<d
   ·rw[if_pos K] at o;have z:=gQq o;clear o;by_cases a5:d=0
    ·subst a5;clear K;go_enter Tryz.func137,Tryz.ntmps137;go_wp2_with fail;refine D.out.mono ?_;rintro e w' ⟨rfl,y⟩;rw[y];clear y w';go_wp2;try rw[Exit.noGoto_ret]
     go_ret3
     rw[z.out];exact eG w B 5 (by decide)
    ·have bO:((d:Int)==0)=false:=(by rw[beq_eq_false_iff_ne];omega);by_cases bs:1024<d
     ·clear K;go_enter Tryz.func137,Tryz.ntmps137;go_wp2_with fail;refine D.out.mono ?_;rintro e w' ⟨rfl,y⟩;rw[y];clear y w';go_wp2;try rw[Exit.noGoto_ret]
      go_ret3
      rw[z.out];exact eG w B 5 (by decide)
     ·have ab:out.length<d:=(by omega);clear K;go_enter Tryz.func137,Tryz.ntmps137;go_wp2_with fail;refine D.out.mono ?_;rintro e w' ⟨rfl,y⟩;rw[y];clear y w';go_wp2;try rw[Exit.noGoto_ret]
      go_ret3
      rw[z.out];exact eG w B 5 (by decide)
   ·rw[if_neg K] at o;have bO:((d:Int)==0)=false:=(by rw[beq_eq_false_iff_ne];omega);have a5:1<=d:=(by omega);have bs:¬1024<d:=(by omega);have ab:¬out.length<d:=(by omega);clear K;by_cases a6:2048-out.length<n
    ·rw[if_pos a6] at o;have z:=gQq o;clear o;go_enter Tryz.func137,Tryz.ntmps137;go_wp2_with fail;refine D.out.mono ?_;rintro e w' ⟨rfl,y⟩;rw[y];clear y w';go_wp2;try rw[Exit.noGoto_ret]
     go_ret3
     rw[z.out];exact eG w B 2 (by decide)
    ·rw[if_neg a6] at o;have z:=gQq o;have b8:¬(2048-(out.length:Int)) % 18446744073709551616<(n:Int):=(by omega);have bj:=fun w=>bY .i64 q t.length c k (by omega) w;have a3:=gQq (bq.out.cut k c bi);obtain⟨a0,be⟩:∃a0,a0=ba q k c:=⟨_,rfl⟩;obtain⟨V,X⟩:∃V,V=t.length-k:=⟨_,rfl⟩;obtain⟨c2,a8⟩:∃c2,c2=c-k:=⟨_,rfl⟩;rw[<-be] at a3 bj;rw[<-X,<-a8] at bj;have a4:Hid (V=t.length-k∧V<=c2):=⟨X,by omega⟩;clear o be X a8;go_enter Tryz.func137,Tryz.ntmps137;go_wp2_with fail;refine D.out.mono ?_;rintro e w' ⟨rfl,y⟩;rw[y];clear y w';go_wp2_with fail;go_loopw [0,50] (fun b6 a1 wr=>∃(i m I:Nat) (g:Nat),i<=n∧m=out.length+i∧b6=.slice (some ⟨g,0,none⟩) m I∧a1=.int .u64 i∧Hid (bh wr B g I (Blk.copyB i d out)∧Below B w wr)) (fun _ a1 _=>n-(intOf a1).toNat);case atStart=>
      rcases bn.out.form with ⟨a7,aj⟩ | ⟨g,I,a7,aj⟩
      ·rw[aj] at ab;simp at ab;omega
      ·exact⟨0,out.length,I,g,Nat.zero_le _,rfl,a7,rfl,aj,gQz⟩
     case round=>
      obtain⟨i,m,I,g,ck,M,rfl,rfl,E⟩:=hrel;have L:=Blk.copyB_length i d out;by_cases b1:i<n
      ·have b0:=sJ E.out.1 (m-d) (by omega);have Z:=Blk.copyB_snoc i d out;rw[L,<-M] at Z;obtain⟨ch,a9⟩:∃ch,ch=(Blk.copyB i d out).getD (m-d) 0:=⟨_,rfl⟩;rw[<-a9] at b0 Z;have br:=gQq Z;have cf:ch.toNat<256:=ch.toNat_lt;have ce:=E.out.2.size;have bp:Hid (Has wr B (.slice (some ⟨g,0,none⟩) m I) (Blk.copyB i d out)):=by
        have:=E.out.1.has;rw[L,<-M] at this;exact this
       have cj:d<=m:=(by omega);have X:m<=4096:=(by omega);have Q:=gQq M;have O:=gQq L;clear Z a9 M L;go_wp2_with (at_builtin;refine eX bp.out ch (by rw[O.out];omega) (by omega) (by rfl) rfl rfl rfl rfl rfl ?_;intro bX bN W b3 hb);go_roundw;case rel=>
        refine⟨i+1,m+1,bN,bX,by omega,by rw[Q.out];omega,by rw[O.out,<-Q.out],by go_num,?_,E.out.2.trans hb⟩;rw[br.out];exact b3
       case measure=>simp[intOf];omega
      ·have b2:i=n:=(by omega);subst b2;have Q:=gQq M;have O:=gQq L;clear M L b1;go_wp2_with fail;go_region_law fail;go_wp2;try rw[Exit.noGoto_ret]
       go_ret3
       rw[z.out];have a2:Below B w wr.drew:=⟨E.out.2.os,E.out.2.tape,E.out.2.output,E.out.2.size,E.out.2.block⟩;refine⟨some ⟨g,0,none⟩,m,I,a0,V,c2,by simp[Act.put],fun _=>⟨?_,?_,?_,?_,a3.out.keep a2⟩,a2⟩
       ·rw[Q.out];exact O.out.symm
       ·have:=E.out.1.has;rw[O.out,<-Q.out] at this;exact this
       ·rw[a4.out.1];simp
       ·have:=a4.out;simp;omega
end
section
open Go.RowKit
def tg(w:World)(r:Blk.Res)(e:Ending)(w':World):Prop :=
 ∃q m cap,e=.returned (.tuple #[.slice q m cap,.int .i64 (r.err:Nat)])∧m=r.out.length∧Has w' w.1.size (.slice q m cap) r.out∧Below w.1.size w w'
theorem kN(t:L8)(q:OA)(c:Nat)(w:World)(ce:t.length<=140737488351232)(cg:t.length<=c)(b5:At w q t):
  Calls Tryz.prog 87 #[.slice q t.length c] w (tg w (Blk.toks [] t)):=by
 have b8:=gQq (b5.atB (Nat.le_refl w.1.size));clear b5;go_enter Tryz.func87,Tryz.ntmps87;go_wp2_with fail
 go_step3
 go_wp2_with fail
 go_step3
 go_wp2_with fail;go_loopw [0,4,5] (fun bO cn co wr=>∃(out o:L8) (W:OA) (K:Nat),bO=.slice W o.length K∧co=.int .i64 0∧out.length<=2048∧o.length<=140737488351232∧o.length<=K∧Hid (AtB wr w.1.size W o∧Has wr w.1.size cn out∧Below w.1.size w wr∧Blk.toks [] t=Blk.toks out o)) (fun bO _ _ _=>kT bO);case atStart=>exact⟨[],t,q,c,rfl,rfl,by simp,ce,cg,b8.out,aM _ _,gQz,rfl⟩
 case round=>
  obtain⟨out,o,W,K,rfl,rfl,ab,cf,b7,Y⟩:=hrel;obtain⟨p,cap,rfl,-,cq⟩:=Y.out.2.1.at;have bT:=gQq Y.out.1;have be:=gQq Y.out.2.1;have Q:=gQq Y.out.2.2.1;have D:=gQq Y.out.2.2.2;have b0:=Q.out.size;clear Y;by_cases b3:o.length=0
  ·have cb:o=[]:=List.eq_nil_of_length_eq_zero b3;subst cb;clear b3;go_wp2;try rw[Exit.noGoto_ret]
   go_ret2;refine⟨p,out.length,cap,?_,?_,?_,Q.out⟩
   ·rw[D.out,Blk.toks_nil];rfl
   ·rw[D.out,Blk.toks_nil]
   ·rw[D.out,Blk.toks_nil];exact be.out
  ·have cd:0<o.length:=(by omega);have S:=gQq (g9 W K o 0 cf b7 wr bT.out.at_);by_cases Z:(Leb.get o).err≠0
   ·have a0:=gQq (lK o Z);rw[a0.out] at S;have bq:Blk.step out o=⟨(Leb.get o).err,[],[]⟩:=(by unfold Blk.step;rw[if_pos Z]);have y:=gQq (Blk.toks_err (out:=out) (List.ne_nil_of_length_pos cd) (by rw[bq];exact Z));rw[bq] at y;obtain⟨I,M⟩:∃I,I=(Leb.get o).err:=⟨_,rfl⟩;rw[<-M] at y S Z;have bX:((I:Int)==0)=false:=(by rw[beq_eq_false_iff_ne];omega);have bN:=fun w=>bY .i64 W o.length K 0 (by omega) w;clear M a0 bq;go_wp2_with fail;refine S.out.mono ?_;rintro e w' ⟨rfl,O⟩;rw[O];clear O w';go_wp2;try rw[Exit.noGoto_ret]
    go_ret2;refine⟨none,0,0,?_,?_,?_,Q.out⟩
    ·rw[D.out,y.out];rfl
    ·rw[D.out,y.out];rfl
    ·rw[D.out,y.out];exact aM _ _
   ·have bn:=Leb.get_ok o (by omega);have a0:=gQq (ot o (by omega));rw[a0.out] at S;have b4:=bn.2.2.1;have bN:=fun w=>bY .i64 W o.length K (Leb.get o).k b4 w;have ak:=gQq (bT.out.cut (Leb.get o).k K b7);have cc:=bn.1;have bc:Blk.step out o=if (Leb.get o).n % 2=0 then Blk.takeL out (o.drop (Leb.get o).k) ((Leb.get o).n / 2) else Blk.takeM out (o.drop (Leb.get o).k) ((Leb.get o).n / 2):=by
     conv=>lhs;unfold Blk.step
     rw[if_neg Z]
    have a9:(o.drop (Leb.get o).k).length=o.length-(Leb.get o).k:=List.length_drop;obtain⟨n,bk⟩:∃n,n=(Leb.get o).n:=⟨_,rfl⟩;obtain⟨a7,L⟩:∃a7,a7=(Leb.get o).k:=⟨_,rfl⟩;rw[<-bk,<-L] at S bc;rw[<-L] at bN ak b4 a9;rw[<-bk] at cc;obtain⟨ah,bp⟩:∃ah,ah=ba W a7 K:=⟨_,rfl⟩;obtain⟨c1,b1⟩:∃c1,c1=K-a7:=⟨_,rfl⟩;obtain⟨E,b6⟩:∃E,E=o.drop a7:=⟨_,rfl⟩;rw[<-b6] at ak bc a9;rw[<-bp] at ak;rw[<-bp,<-b1,<-a9] at bN;have a8:=gQq bc;have cr:E.length<=o.length:=(by omega);have b2:E.length<=c1:=(by omega);have bi:Hid (∀X:Int,X=((n / 2:Nat):Int)->Calls Tryz.prog 136 #[.slice p out.length cap,.slice ah E.length c1,.int .u64 X] wr (vT wr w.1.size (Blk.takeL out E (n / 2)))):=fun X br=>by
     subst br;exact tG out E (n / 2) (by omega) w.1.size _ ah c1 wr b0 ab (by omega) b2 be.out ak.out
    have bj:Hid (∀X:Int,X=((n / 2:Nat):Int)->Calls Tryz.prog 137 #[.slice p out.length cap,.slice ah E.length c1,.int .u64 X] wr (vT wr w.1.size (Blk.takeM out E (n / 2)))):=fun X br=>by
     subst br;exact tF out E (n / 2) (by omega) w.1.size _ ah c1 wr b0 ab (by omega) b2 be.out ak.out
    clear bn a0 Z bc bk L bp b1 b6 a9;by_cases bb:n % 2=0
    ·have ca:((n:Int) % 2==0)=true:=(by rw[beq_iff_eq];omega);have a6:Blk.step out o=Blk.takeL out E (n / 2):=(by rw[a8.out,if_pos bb]);rw[<-a6] at bi;clear a6 a8 bj bb;go_wp2_with fail;refine S.out.mono ?_;rintro e w' ⟨rfl,O⟩;rw[O];clear O w';go_wp2_with fail;refine(bi.out _ (by omega)).mono ?_;rintro e cp ⟨ck,cj,b9,bs,ci,c2,rfl,J,aj⟩;by_cases z:(Blk.step out o).err=0
     ·have U:=gQq (J z);have V:=gQq (Blk.step_ok z ab);have y:=gQq (Blk.toks_step (List.ne_nil_of_length_pos (by omega)) ab z);have a4:=V.out.1;have a5:=V.out.2;obtain⟨a1,-,a2,a3,-⟩:=J z;obtain⟨k,L⟩:∃k,k=Blk.step out o:=⟨_,rfl⟩;rw[<-L] at U y a4 a5 a1 a2 a3 z ⊢;rw[z];subst a1;subst a2;clear J L V;go_wp2_with fail;go_roundw;case rel=>exact⟨k.out,k.rest,bs,c2,rfl,rfl,a4,by omega,a3,U.out.2.2.2.2,U.out.2.1,Q.out.trans aj,D.out.trans y.out⟩
      case measure=>simp[kT];exact a5
     ·have y:=gQq (Blk.toks_err (List.ne_nil_of_length_pos (by omega)) z);obtain⟨I,M⟩:∃I,I=(Blk.step out o).err:=⟨_,rfl⟩;rw[<-M] at y z ⊢;have bX:((I:Int)==0)=false:=(by rw[beq_eq_false_iff_ne];omega);clear J M;go_wp2;try rw[Exit.noGoto_ret]
      go_ret2;refine⟨none,0,0,?_,?_,?_,Q.out.trans aj⟩
      ·rw[D.out,y.out];rfl
      ·rw[D.out,y.out];rfl
      ·rw[D.out,y.out];exact aM _ _
    ·have ca:((n:Int) % 2==0)=false:=(by rw[beq_eq_false_iff_ne];omega);have a6:Blk.step out o=Blk.takeM out E (n / 2):=(by rw[a8.out,if_neg bb]);rw[<-a6] at bj;clear a6 a8 bi bb;go_wp2_with fail;refine S.out.mono ?_;rintro e w' ⟨rfl,O⟩;rw[O];clear O w';go_wp2_with fail;refine(bj.out _ (by omega)).mono ?_;rintro e cp ⟨ck,cj,b9,bs,ci,c2,rfl,J,aj⟩;by_cases z:(Blk.step out o).err=0
     ·have U:=gQq (J z);have V:=gQq (Blk.step_ok z ab);have y:=gQq (Blk.toks_step (List.ne_nil_of_length_pos (by omega)) ab z);have a4:=V.out.1;have a5:=V.out.2;obtain⟨a1,-,a2,a3,-⟩:=J z;obtain⟨k,L⟩:∃k,k=Blk.step out o:=⟨_,rfl⟩;rw[<-L] at U y a4 a5 a1 a2 a3 z ⊢;rw[z];subst a1;subst a2;clear J L V;go_wp2_with fail;go_roundw;case rel=>exact⟨k.out,k.rest,bs,c2,rfl,rfl,a4,by omega,a3,U.out.2.2.2.2,U.out.2.1,Q.out.trans aj,D.out.trans y.out⟩
      case measure=>simp[kT];exact a5
     ·have y:=gQq (Blk.toks_err (List.ne_nil_of_length_pos (by omega)) z);obtain⟨I,M⟩:∃I,I=(Blk.step out o).err:=⟨_,rfl⟩;rw[<-M] at y z ⊢;have bX:((I:Int)==0)=false:=(by rw[beq_eq_false_iff_ne];omega);clear J M;go_wp2;try rw[Exit.noGoto_ret]
      go_ret2;refine⟨none,0,0,?_,?_,?_,Q.out.trans aj⟩
      ·rw[D.out,y.out];rfl
      ·rw[D.out,y.out];rfl
      ·rw[D.out,y.out];exact aM _ _
end
section
open Go.RowKit
theorem ww(l:L8)(q:OA)(c:Nat)(w:World)(bj:l.length<=140737488351232)(a3:l.length<=c)(Z:At w q l):
  Calls Tryz.prog 52 #[.slice q l.length c] w (tg w (Blk.unpack l)):=by
 cases l with
 |nil=>
  go_enter Tryz.func52,Tryz.ntmps52;go_wp2;go_ret2;exact⟨none,0,0,rfl,rfl,aM _ _,gQz⟩
 |cons ch r=>
  obtain⟨b,K,rfl,hb,a2⟩:=aC Z (by simp);have c0:w.cell? ⟨b,K,none⟩=some (.int .u8 (ch.toNat:Int)):=a2 0 (by simp);have V:Hid (At w (ba (some ⟨b,K,none⟩) 1 c) r):=Z.cut10 1 c a3;have Y:(ch::r).length=r.length+1:=rfl;obtain⟨S,ab⟩:∃S,S=ba (some ⟨b,K,none⟩) 1 c:=⟨_,rfl⟩;obtain⟨c1,a1⟩:∃c1,c1=c-1:=⟨_,rfl⟩;have be:ch.toNat<256:=ch.toNat_lt;have o:Blk.unpack (ch::r)=if ch.toNat=1 then Blk.toks [] r else if ch.toNat≠0 then ⟨5,[]⟩ else if 2048<r.length then ⟨2,[]⟩ else ⟨0,r⟩:=rfl;obtain⟨a5,a4⟩:∃a5,a5=Blk.unpack (ch::r):=⟨_,rfl⟩;rw[<-a4] at o ⊢;rw[<-ab] at V;have a6:∀n,n=r.length+1->∀w,(Instr.slice 22 (.slice (some ⟨b,K,none⟩) n c) (some (.int .i64 1)) none none).run Tryz.prog w=.ok (.slice S r.length c1) w:=fun n y w=>by
   have:=bY .i64 (some ⟨b,K,none⟩) n c 1 (by omega) w;rw[<-ab,<-a1,show n-1=r.length by omega] at this;exact this
  rw[Y];rw[Y] at bj a3;have bc:r.length<=c1:=by omega
  obtain⟨n,y⟩:∃n,n=r.length+1:=⟨_,rfl⟩;have bT:=a6 n y;rw[<-y];have Q:r.length=n-1:=by omega
  have br:1<=n:=by omega
  have bs:n<=140737488351232:=by omega
  clear Y ab a1 a2 Z a6 a4;have bp:=gQq y;obtain⟨z,I⟩:∃z,z=ch.toNat:=⟨_,rfl⟩;rw[<-I] at c0 be o;by_cases E:z=1
  ·rw[if_pos E] at o;have aj:=gQq (kN r S c1 w (by omega) bc V.out);rw[<-o] at aj;subst E;clear I o y Q;go_enter Tryz.func52,Tryz.ntmps52;go_wp2_with fail;refine aj.out.mono ?_;rintro e w' ⟨ah,bO,X,rfl,bk,J,a0⟩;subst bk;have L:=gQq J;have U:=gQq a0;clear J a0;go_wp2;go_ret2;exact⟨ah,_,X,rfl,rfl,L.out,U.out⟩
  ·rw[if_neg E] at o;have a8:((z:Int)==1)=false:=(by rw[beq_eq_false_iff_ne];omega);by_cases M:z≠0
   ·rw[if_pos M] at o;have bq:((z:Int) != 0)=true:=(by rw[bne_iff_ne];omega);have D:=gQq o;clear I o y Q E M;go_enter Tryz.func52,Tryz.ntmps52;go_wp2;go_ret2;rw[D.out];exact⟨none,0,0,rfl,rfl,aM _ _,gQz⟩
   ·rw[if_neg M] at o;have bb:z=0:=(by omega);subst bb;clear E M a8;by_cases O:2048<r.length
    ·rw[if_pos O] at o;have D:=gQq o;have a9:2048<n-1:=(by omega);clear I o y Q O;go_enter Tryz.func52,Tryz.ntmps52;go_wp2;go_ret2;rw[D.out];exact⟨none,0,0,rfl,rfl,aM _ _,gQz⟩
    ·rw[if_neg O] at o;have D:=gQq o;have a9:¬2048<n-1:=(by omega);have bN:r.length<=2048:=(by omega);clear I o y Q O;go_enter Tryz.func52,Tryz.ntmps52;go_wp2_with (at_builtin;refine aE (aM w w.1.size) V.out (by simp;omega) gQx rfl rfl rfl rfl rfl ?_;intro bn ah X W a7 J ak bi);have U:=gQq (aB ak (aM w w.1.size) gQx);have L:=gQq J;clear ak bi J;go_wp2;go_ret2;rw[D.out];have e:bn=r:=a7.out;rw[e] at L;rw[e];exact⟨ah,_,X,rfl,rfl,L.out,U.out⟩
end
end Go.Proofs.YtbahfgdbjgkklaaGreatDoor
