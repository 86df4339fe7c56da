import Derived.Test.YtbahfgdbjgkklaaGreatDoorB40
set_option maxHeartbeats 4000000
namespace Go.Proofs.YtbahfgdbjgkklaaGreatDoor
section
open Go.RowKit
def rB(w:World)(p:OA)(rs:List Run):Prop:=rs=[]∨∃g o,p=some ⟨g,o,none⟩∧∀j (hj:j<rs.length),w.cell? ⟨g,o+j*2,none⟩=some (.int .i64 rs[j].1)∧∃q c,w.cell? ⟨g,o+j*2+1,none⟩=some (.slice q rs[j].2.length c)∧At w q rs[j].2
theorem bg.read{w:World}{B:Nat}{q:OA}{n c:Nat}{E:List Nat}{rs:List Run}(h:bg w B (.slice q n c) E rs):rB w q rs:=by
 obtain⟨us,M,aj,O⟩:=h.out;rcases M.2 with ⟨_,Q⟩ | ⟨g,cap,X,V,Y,S,Z,ab,ah,U⟩
 ·exact .inl (List.eq_nil_of_length_eq_zero Q)
 ·injection V with y _ _;subst y;refine .inr ⟨g,0,rfl,fun j W=>?_⟩;obtain⟨L,I,y,J,K,o⟩:=O j W;have z:∀m v,m<rs.length*2->us[m]?=some v->w.cell? ⟨g,m,none⟩=some v:=fun m v o D=>by
   rw[<-U,List.getElem?_take_of_lt o] at D;simp only[World.cell?,S];simpa using D
  refine⟨?_,some ⟨L,0,none⟩,I,?_,o.at⟩
  ·rw[Nat.zero_add];exact z _ _ (by omega) J
  ·rw[Nat.zero_add];exact z _ _ (by omega) K
theorem rB.drop{w:World}{g o:Nat}{rs:List Run}(h:rB w (some ⟨g,o,none⟩) rs)(n:Nat):rB w (some ⟨g,o+n*2,none⟩) (rs.drop n):=by
 rcases h with h | ⟨K,L,y,h⟩
 ·exact .inl (by simp[h])
 ·injection y with y;injection y with e1 e2 _;subst e1 e2;refine .inr ⟨g,o+n*2,rfl,fun j J=>?_⟩;rw[List.length_drop] at J;obtain⟨D,q,c,E,I⟩:=h (n+j) (by omega);have e:∀m,o+n*2+j*2+m=o+(n+j)*2+m:=fun m=>by omega
  have z:=e 0;simp only[Nat.add_zero] at z;simp only[List.getElem_drop];exact⟨by rw[z];exact D,q,c,by rw[e 1];exact E,I⟩
end
section
open Go.RowKit
theorem rX(w:World)(p:OA)(c:Nat)(l:L8)(a6:At w p l)(bj:l.length<=c)(c8:l.length<=100000000):Calls Tryz.prog 21 #[.slice p l.length c] w fun e w'=>∃q cap E,e=.returned (.slice q (Sp.of l).out.length cap)∧bg w' w.1.size (.slice q (Sp.of l).out.length cap) E (Sp.of l).out∧Below w.1.size w w':=by
  have bs:=gQq a6;clear a6;go_enter Tryz.func21,Tryz.ntmps21;go_wp2;go_loopw [3,4,9] (fun cp cq a0 wr=>∃(i:Nat) (E:List Nat),i<=l.length∧a0=.int .i64 i∧cq=.int .i64 (opI (Sp.of (l.take i)).last)∧Hid (bg wr w.1.size cp E (Sp.of (l.take i)).out∧Below w.1.size w wr)) (fun _ _ a0 _=>l.length-(intOf a0).toNat);case atStart=>exact⟨0,[],by omega,rfl,rfl,lw _ _,gQz⟩
  case round=>
    obtain⟨i,E,cy,rfl,rfl,y⟩:=hrel;obtain⟨co,cn,ca,-⟩:=y.out.1.form;subst ca;by_cases bn:i<l.length
    · have c9:(i:Int)<(l.length:Int):=(by omega);obtain⟨b,o,ce,b7,ab⟩:=aC (bs.out.on y.out.2) (by omega);subst ce;have bk:=ab i bn;obtain⟨x,ak⟩:∃x,x=l[i]:=⟨_,rfl⟩;rw[<-ak] at bk;have z:Hid (Sp.of (l.take (i+1))=(Sp.of (l.take i)).step x):=by
        show _=_;rw[List.take_succ_eq_append_getElem bn,ak,Sp.of_snoc]
      have Y:Hid (∀k,(Sp.of (l.take i)).last=some k->(l.take i).drop (k+1)=(Sp.of (l.take i)).tail∧k+1+(Sp.of (l.take i)).tail.length=i):=by
        intro k S;obtain⟨ct,a5,b4⟩:=(Sp.in_all (l.take i)).some_ k S;have b5:=(Sp.ok_of (l.take i)).lastn k S;rw[Sp.of_n,List.length_take] at b5;exact⟨b4,by omega⟩
      have a8:(Sp.of (l.take i)).n=i:=(by rw[Sp.of_n,List.length_take];omega);have a1:Hid ((Sp.of (l.take i)).out.length<=1000000000):=by
        show _<=_;have:=Sp.out_len (l.take i);rw[List.length_take] at this;omega
      have bT:=gQq ab;clear ab ak;obtain⟨D,a7⟩:∃D,D=Sp.of (l.take i):=⟨_,rfl⟩;rw[<-a7] at y z Y a1 a8 ⊢;clear a7;by_cases M:x=0
      · have b6:((x.toNat:Int) != 0)=false:=(by rw[M];rfl);rw[M] at z bk;have U:(D.step 0).last=some i:=(by rw[Sp.step_fence,a8]);cases hla:D.last with
        |none=>
          have HO:Hid ((D.step 0).out=D.out):=by
            show _=_;rw[Sp.step_out,Sp.told_none (by unfold Sp.op;rw[hla];simp),List.append_nil]
          simp only[opI];clear hla;go_wp2;go_roundw;case rel=>exact⟨i+1,E,by omega,by go_num,by rw[z.out,U],by rw[z.out,HO.out];exact y.out⟩
          case measure=>simp[intOf];omega
        |some k=>
          obtain⟨X,ah⟩:=Y.out k hla;have cc:(0:Int)<=(k:Int):=(by omega);have cu:decide ((0:Int)<=(k:Int))=true:=decide_eq_true cc;simp only[opI];by_cases J:D.tail=[]
          · have cd:¬((1:Int)<(i:Int)-(k:Int)):=(by rw[J] at ah;simp at ah;omega);have cv:decide ((1:Int)<(i:Int)-(k:Int))=false:=decide_eq_false cd;have HO:Hid ((D.step 0).out=D.out):=by
              show _=_;rw[Sp.step_out];simp only[Sp.told,if_true,J];cases D.op <;> simp
            clear hla X;go_wp2;go_roundw;case rel=>exact⟨i+1,E,by omega,by go_num,by rw[z.out,U],by rw[z.out,HO.out];exact y.out⟩
            case measure=>simp[intOf];omega
          · have ci:0<D.tail.length:=List.length_pos_iff.2 J;have ck:(1:Int)<(i:Int)-(k:Int):=(by omega);have cw:decide ((1:Int)<(i:Int)-(k:Int))=true:=decide_eq_true ck;by_cases Z:D.tail.length<=2200
            · have aj:(i:Int)-(k:Int)-1<=2200:=(by omega);have b8:decide ((i:Int)-(k:Int)-1<=2200)=true:=decide_eq_true aj;have HO:Hid ((D.step 0).out=D.out++[(k,D.tail)]):=by
                show _=_;have bp:D.op=some k:=(by unfold Sp.op;rw[if_pos Z];exact hla);rw[Sp.step_out,Sp.told_some bp,Sp.held_op bp,if_neg J]
              have a3:Hid (At wr (some ⟨b,o+(k+1),none⟩) D.tail):=by
                rw[<-X];refine .inr ⟨b,o+(k+1),rfl,b7,?_⟩;exact cF (cE bT.out i) (k+1)
              obtain⟨T,bc⟩:∃T,T=D.tail:=⟨_,rfl⟩;rw[<-bc] at a3 HO ah ci J;have c7:(k:Int)+1<=(i:Int):=(by omega);have c5:(i:Int)<=(c:Int):=(by omega);clear hla X Z Y bc;have b2:Hid (i-(k+1)=T.length):=(by show _=_;omega);have bq:=y.out.2.size;have a2:=gQq y.out.1
              go_wp2_with (first
                | (at_builtin
                   go_loud (refine aE (B:=wr.1.size) (xs:=[]) (v:=.slice none 0 0) (l:=T) (aM _ _) a3.out (by simp;omega) gQx rfl rfl rfl rfl (by first | (rw[<-b2.out];rfl) | rfl) ?_)
                   intro K q L W a4 a9 bi _;have cj:K=T:=a4.out;subst cj;have O:Below wr.1.size wr W:=bi.below gQx (fun k _ S=>by cases S);obtain⟨I,cf,V⟩:∃I,q=some ⟨I,0,none⟩∧bh W wr.1.size I L K:=by
                     rcases a9.form with ⟨_,a5⟩ | ⟨I,c2,b9,V⟩
                     · exact absurd a5 J
                     · injection b9 with e1 _ e2;subst e1 e2;exact⟨I,rfl,V⟩
                   subst cf;have Q:Below W.1.size W (W.alloc (.cells #[.int .i64 (k:Int),.slice (some ⟨I,0,none⟩) K.length L] 62)):=gQy;have cg:=O.size;have bN:=gQq (O.trans (Q.mono cg));have b1:=gQq ((a2.out.on O).on Q);have bX:=gQq (j7 (B':=w.1.size) (Has.on (v:=.slice (some ⟨I,0,none⟩) K.length L) V Q) bq);have bO:=gQq (bC W (.cells #[.int .i64 (k:Int),.slice (some ⟨I,0,none⟩) K.length L] 62));clear a4 a9 bi O Q V)
                | (at_builtin;refine na b1.out k K I L bX.out bO.out a1.out (by simp;omega) rfl rfl rfl rfl rfl ?_;intro cs c3 cr bb be _;have b0:=gQq bb;have b3:=gQq be;clear bb be)
                |fail)
              go_roundw;case rel=>
                refine⟨i+1,E++[I],by omega,by go_num,by rw[z.out,U],?_⟩;rw[z.out,HO.out];refine⟨b0.out,y.out.2.trans ((bN.out.mono bq).trans (b3.out.below (by simp;omega) (fun j c6 bj=>?_)))⟩;have:=(a2.out.lt j bj).1;omega
              case measure=>simp[intOf];omega
            · have aj:¬((i:Int)-(k:Int)-1<=2200):=(by omega);have b8:decide ((i:Int)-(k:Int)-1<=2200)=false:=decide_eq_false aj;have HO:Hid ((D.step 0).out=D.out):=by
                show _=_;rw[Sp.step_out,Sp.told_none (by unfold Sp.op;rw[if_neg Z]),List.append_nil]
              clear hla X;go_wp2;go_roundw;case rel=>exact⟨i+1,E,by omega,by go_num,by rw[z.out,U],by rw[z.out,HO.out];exact y.out⟩
              case measure=>simp[intOf];omega
      · have b6:((x.toNat:Int) != 0)=true:=by
          rw[bne_iff_ne];intro cx;exact M (UInt8.toNat_inj.1 (by simp;omega))
        have HO:Hid ((D.step x).out=D.out∧(D.step x).last=D.last):=by
          constructor
          · rw[Sp.step_out,Sp.told_else M,List.append_nil]
          · simp[Sp.step,M]
        go_wp2;go_roundw;case rel=>exact⟨i+1,E,by omega,by go_num,by rw[z.out,HO.out.2],by rw[z.out,HO.out.1];exact y.out⟩
        case measure=>simp[intOf];omega
    · have cb:i=l.length:=(by omega);subst cb;rw[List.take_length] at y ⊢;go_wp2;go_ret;exact⟨co,cn,E,rfl,y.out⟩
end
end Go.Proofs.YtbahfgdbjgkklaaGreatDoor
