import Derived.Test.YtllbniljgcgbeaaGreatDoorA10
set_option maxRecDepth 100000
set_option maxHeartbeats 4000000
namespace Go.Proofs.YtllbniljgcgbeaaGreatDoor
section
open Go.RowKit
theorem eD(w:World)(t:ByteArray)(pos k n:Nat):((w.drewN k).iter t pos).drewN n=(w.drewN (k+n)).iter t pos:=by
 simp[World.iter,World.alloc,World.drewN,Nat.add_assoc]
theorem mh(w:World)(k:Nat)(t:ByteArray)(pos:Nat):Below w.1.size w ((w.drewN k).iter t pos):=(below_drewN tZ k).alloc tX _
theorem mu(p:UInt8->Bool)(l:Tx.Bs)(j:Nat)(h1:∀c∈l.take j,p c=true)(h2:∀c,(l.drop j).head?=some c->p c=false):l.takeWhile p=l.take j:=by
 have h:=(Tx.span p (l.take j) (l.drop j) h1 h2).1
 rw[List.take_append_drop] at h
 exact h
theorem kX{S:ByteArray}{l:Tx.Bs}{a:Nat}(hs:S.data.toList.drop a=l)(n:Nat)(hn:S.size<=n):S.extract a n=⟨l.toArray⟩:=by
 apply ByteArray.ext
 apply Array.toList_inj.1
 rw[<-hs,ByteArray.data_extract,Array.toList_extract]
 simp
 exact List.take_of_length_le (by rw[List.length_drop,Array.length_toList];have:S.data.size=S.size:=rfl;omega)
theorem pW(l:Tx.Bs)(j:Nat):(ByteArray.mk l.toArray).extract 0 j=⟨(l.take j).toArray⟩:=by
 apply ByteArray.ext
 apply Array.toList_inj.1
 simp[ByteArray.data_extract]
section
variable {w w':World} {P:Nat} {S:ByteArray} {l:Tx.Bs}
theorem dM(h:Prs w P S l){q:Int->Bool}{p:UInt8->Bool}(hqp:fc q p)(f:FuncId)(env:AV)(hE:∀(args:AV) (w:World),(callFunc f args).run Tryz.prog w=.ok (.enter f args) w)(hC:∀r w',Below w.1.size w w'->Calls Tryz.prog f (#[.int .i32 r]++env) w' fun e w''=>e=.returned (.bool (q r))∧∃n,w''=w'.drewN n):
  Calls Tryz.prog 81 #[.pointer (some ⟨P,0,none⟩),.func (.func f) #[] env] w fun e w'=>e=.returned (.string ⟨(l.takeWhile p).toArray⟩)∧Below w.1.size w w':=by
 have hsm:=h.small
 have hle:=h.le
 have c0:w.cell? ⟨P,0,none⟩=some (.string S):=h.cell 0
 have c1:w.cell? ⟨P,1,none⟩=some (.int .i64 ((S.size-l.length:Nat):Int)):=h.cell 1
 have hcut:=kX h.suf S.size tX
 obtain⟨a,ha⟩:∃a,S.size-l.length=a:=⟨_,rfl⟩
 rw[ha] at c1 hcut
 have haS:a<=S.size:=by omega
 have haI:(a:Int)<=(S.size:Int):=by omega
 have HC:=tQ hC
 have HQ:=tQ hqp
 obtain⟨t,ht⟩:∃t,t=ByteArray.mk l.toArray:=⟨_,rfl⟩
 rw[<-ht] at hcut
 have hts:t.size=l.length:=by rw[ht];show l.toArray.size=_;simp
 have HT:=tQ ht
 have HTs:=tQ hts
 have htl:t.size<=140737488351232:=by omega
 clear h hqp hC ha ht hts
 have HIt:Hid (∀k pos,((w.drewN k).iter t pos).iterPos w.1.size=pos):=fun k pos=>World.iterPos_iter (w.drewN k) t pos
 have HBl:Hid (∀k pos,Below w.1.size w ((w.drewN k).iter t pos)):=fun k pos=>mh w k t pos
 go_enter Tryz.func81,Tryz.ntmps81
 go_wp2_with fail
 go_quiet (fail)
 go_wp2
 go_loopw [6,7] (fun _ _ wr=>∃pos k:Nat,pos<=t.size∧wr=(w.drewN k).iter t pos∧Hid (∀c∈l.take pos,p c=true)) (fun _ _ wr=>t.size-wr.iterPos w.1.size)
 case atStart=>exact⟨0,_,Nat.zero_le _,rfl,fun c hc=>by simp at hc⟩
 case round=>
  obtain⟨pos,k,hp,rfl,HU⟩:=hrel
  by_cases hlt:pos<t.size
  ·have hnx:∀ty,(Instr.next (.pointer (some ⟨w.1.size,0,none⟩)) true ty).run Tryz.prog ((w.drewN k).iter t pos)=.ok (.tuple #[.bool true,.int .i64 pos,.int .i32 (Utf8.decode t pos).1]) ((w.drewN k).iter t (pos+(Utf8.decode t pos).2)):=fun ty=>run_next_any (P:=Tryz.prog) (w.drewN k) t pos ty hlt
   have hpl:pos<l.length:=by have:=HTs.out;omega
   have hdl:t.data.toList.drop pos=l[pos]::l.drop (pos+1):=by rw[HT.out];exact List.drop_eq_getElem_cons hpl
   have hdc:=eH hdl hlt
   obtain⟨c,hc⟩:∃c,c=l[pos]'hpl:=⟨_,rfl⟩
   rw[<-hc] at hdc
   have HCc:=tQ hc
   have HJ2:Hid (p c=true->∀c∈l.take (pos+1),p c=true):=fun hpc x hx=>by
    rw[List.take_succ_eq_append_getElem hpl] at hx
    rcases List.mem_append.1 hx with hx | hx
    ·exact HU.out x hx
    ·rw[List.mem_singleton] at hx
     rw[hx,<-HCc.out];exact hpc
   have HEx:Hid (p c=false->t.extract 0 pos=⟨(l.takeWhile p).toArray⟩):=fun hpc=>by
    rw[HT.out,pW,mu p l pos HU.out]
    intro x hx
    rw[List.head?_drop,List.getElem?_eq_getElem hpl] at hx
    injection hx with hx
    rw[<-hx,<-HCc.out];exact hpc
   have b2:(pos:Int)<=(t.size:Int):=by omega
   clear hdl hc HU HCc
   by_cases h128:c.toNat<128
   ·have hd:dec (c::l.drop (pos+1))=(c.toNat,1):=by simp[dec,h128]
    rw[hdc,hd] at hnx
    have HCr:Hid (∀k pos,Calls Tryz.prog f (#[.int .i32 (c.toNat:Int)]++env) ((w.drewN k).iter t pos) fun e w''=>e=.returned (.bool (p c))∧∃n,w''=((w.drewN k).iter t pos).drewN n):=fun k pos=>by
     rw[<-HQ.out.low c h128]
     exact HC.out _ _ (HBl.out k pos)
    clear hd hdc h128
    cases hpc:p c with
    |true=>
     rw[hpc] at HCr HJ2
     have HJ:=tQ (HJ2.out rfl)
     clear hpc HJ2 HEx
     go_wp2_with fail
     refine(HCr.out _ _).mono ?_
     rintro e w1 ⟨rfl,n,hw1⟩
     rw[eD] at hw1
     rw[hw1]
     clear hw1 w1
     go_wp2
     go_roundw
     case rel=>exact⟨pos+1,k+n,by omega,rfl,HJ⟩
     case measure=>rw[HIt.out,HIt.out];omega
    |false=>
     rw[hpc] at HCr HEx
     have HE:=tQ (HEx.out rfl)
     clear hpc HJ2 HEx
     go_wp2_with fail
     refine(HCr.out _ _).mono ?_
     rintro e w1 ⟨rfl,n,hw1⟩
     rw[eD] at hw1
     rw[hw1]
     clear hw1 w1
     go_wp2
     go_ret
     rw[HE.out]
     exact⟨rfl,HBl.out _ _⟩
   ·obtain⟨r,m,hrm⟩:∃r m,dec (c::l.drop (pos+1))=(r,m):=⟨_,_,rfl⟩
    have hr:128<=r:=by have:=pU (c:=c) (r:=l.drop (pos+1)) (by omega);rw[hrm] at this;exact this
    rw[hdc,hrm] at hnx
    have HCr:Hid (∀k pos,Calls Tryz.prog f (#[.int .i32 (r:Int)]++env) ((w.drewN k).iter t pos) fun e w''=>e=.returned (.bool false)∧∃n,w''=((w.drewN k).iter t pos).drewN n):=fun k pos=>by
     rw[<-HQ.out.out r (by omega)]
     exact HC.out _ _ (HBl.out k pos)
    have HE:=tQ (HEx.out (HQ.out.hig c (by omega)))
    clear hdc h128 hrm hr HJ2 HEx
    go_wp2_with fail
    refine(HCr.out _ _).mono ?_
    rintro e w1 ⟨rfl,n,hw1⟩
    rw[eD] at hw1
    rw[hw1]
    clear hw1 w1
    go_wp2
    go_ret
    rw[HE.out]
    exact⟨rfl,HBl.out _ _⟩
  ·have hnx:∀ty,(Instr.next (.pointer (some ⟨w.1.size,0,none⟩)) true ty).run Tryz.prog ((w.drewN k).iter t pos)=.ok (.tuple #[.bool false]) ((w.drewN k).iter t pos):=fun ty=>run_next_end (P:=Tryz.prog) (w.drewN k) t pos ty hlt
   have HE:Hid (t=⟨(l.takeWhile p).toArray⟩):=by
    show t=_
    rw[mu p l pos HU.out,List.take_of_length_le (by have:=HTs.out;omega)]
    ·exact HT.out
    ·intro x hx
     rw[List.head?_drop,List.getElem?_eq_none (by have:=HTs.out;omega)] at hx
     cases hx
   clear HU
   go_wp2
   go_ret
   exact⟨by rw[<-HE.out];rfl,HBl.out _ _⟩
end
end
section
open Go.RowKit
def kw(j:Nat):Tx.Bs:=Tx.word (j:Int)
theorem rE{j:Nat}(h:j<8):kwC[j]?=some (.string ⟨(kw j).toArray⟩):=by
 have h8:j=0∨j=1∨j=2∨j=3∨j=4∨j=5∨j=6∨j=7:=by omega
 rcases h8 with rfl | rfl | rfl | rfl | rfl | rfl | rfl | rfl <;> rfl
theorem qO{j:Nat}(h:j<8):Tx.kindOf (kw j)=(j:Int):=by
 have h8:j=0∨j=1∨j=2∨j=3∨j=4∨j=5∨j=6∨j=7:=by omega
 rcases h8 with rfl | rfl | rfl | rfl | rfl | rfl | rfl | rfl <;> decide
theorem qN{wd:Tx.Bs}(h:∀i,i<8->kw i≠wd):Tx.kindOf wd=0:=by
 by_cases hk:Tx.kindOf wd=0
 ·exact hk
 ·obtain⟨h1,h2,h3⟩:=Tx.word_kind hk
  refine absurd h1.symm ?_
  have:=h (Tx.kindOf wd).toNat (by omega)
  unfold kw at this
  rwa [Int.toNat_of_nonneg (by omega)] at this
section
variable (w:World)
theorem tC:(Instr.index 131 (.agg #[.string ⟨#[]⟩,.string ⟨#[98,111,111,108]⟩,.string ⟨#[105,110,116]⟩,.string ⟨#[102,108,111,97,116]⟩,.string ⟨#[116,101,120,116]⟩,.string ⟨#[98,121,116,101,115]⟩,.string ⟨#[111,112,116]⟩,.string ⟨#[108,105,115,116]⟩]) (.int .i64 ((0:Nat):Int))).run Tryz.prog w=.ok (.string ⟨(kw 0).toArray⟩) w:=by kernel_rfl
theorem tB:(Instr.index 131 (.agg #[.string ⟨#[]⟩,.string ⟨#[98,111,111,108]⟩,.string ⟨#[105,110,116]⟩,.string ⟨#[102,108,111,97,116]⟩,.string ⟨#[116,101,120,116]⟩,.string ⟨#[98,121,116,101,115]⟩,.string ⟨#[111,112,116]⟩,.string ⟨#[108,105,115,116]⟩]) (.int .i64 ((1:Nat):Int))).run Tryz.prog w=.ok (.string ⟨(kw 1).toArray⟩) w:=by kernel_rfl
theorem tA:(Instr.index 131 (.agg #[.string ⟨#[]⟩,.string ⟨#[98,111,111,108]⟩,.string ⟨#[105,110,116]⟩,.string ⟨#[102,108,111,97,116]⟩,.string ⟨#[116,101,120,116]⟩,.string ⟨#[98,121,116,101,115]⟩,.string ⟨#[111,112,116]⟩,.string ⟨#[108,105,115,116]⟩]) (.int .i64 ((2:Nat):Int))).run Tryz.prog w=.ok (.string ⟨(kw 2).toArray⟩) w:=by kernel_rfl
theorem tw:(Instr.index 131 (.agg #[.string ⟨#[]⟩,.string ⟨#[98,111,111,108]⟩,.string ⟨#[105,110,116]⟩,.string ⟨#[102,108,111,97,116]⟩,.string ⟨#[116,101,120,116]⟩,.string ⟨#[98,121,116,101,115]⟩,.string ⟨#[111,112,116]⟩,.string ⟨#[108,105,115,116]⟩]) (.int .i64 ((3:Nat):Int))).run Tryz.prog w=.ok (.string ⟨(kw 3).toArray⟩) w:=by kernel_rfl
theorem tv:(Instr.index 131 (.agg #[.string ⟨#[]⟩,.string ⟨#[98,111,111,108]⟩,.string ⟨#[105,110,116]⟩,.string ⟨#[102,108,111,97,116]⟩,.string ⟨#[116,101,120,116]⟩,.string ⟨#[98,121,116,101,115]⟩,.string ⟨#[111,112,116]⟩,.string ⟨#[108,105,115,116]⟩]) (.int .i64 ((4:Nat):Int))).run Tryz.prog w=.ok (.string ⟨(kw 4).toArray⟩) w:=by kernel_rfl
theorem tu:(Instr.index 131 (.agg #[.string ⟨#[]⟩,.string ⟨#[98,111,111,108]⟩,.string ⟨#[105,110,116]⟩,.string ⟨#[102,108,111,97,116]⟩,.string ⟨#[116,101,120,116]⟩,.string ⟨#[98,121,116,101,115]⟩,.string ⟨#[111,112,116]⟩,.string ⟨#[108,105,115,116]⟩]) (.int .i64 ((5:Nat):Int))).run Tryz.prog w=.ok (.string ⟨(kw 5).toArray⟩) w:=by kernel_rfl
theorem tm:(Instr.index 131 (.agg #[.string ⟨#[]⟩,.string ⟨#[98,111,111,108]⟩,.string ⟨#[105,110,116]⟩,.string ⟨#[102,108,111,97,116]⟩,.string ⟨#[116,101,120,116]⟩,.string ⟨#[98,121,116,101,115]⟩,.string ⟨#[111,112,116]⟩,.string ⟨#[108,105,115,116]⟩]) (.int .i64 ((6:Nat):Int))).run Tryz.prog w=.ok (.string ⟨(kw 6).toArray⟩) w:=by kernel_rfl
theorem tl:(Instr.index 131 (.agg #[.string ⟨#[]⟩,.string ⟨#[98,111,111,108]⟩,.string ⟨#[105,110,116]⟩,.string ⟨#[102,108,111,97,116]⟩,.string ⟨#[116,101,120,116]⟩,.string ⟨#[98,121,116,101,115]⟩,.string ⟨#[111,112,116]⟩,.string ⟨#[108,105,115,116]⟩]) (.int .i64 ((7:Nat):Int))).run Tryz.prog w=.ok (.string ⟨(kw 7).toArray⟩) w:=by kernel_rfl
end
theorem sU(j:Nat)(h:j<8)(w:World):(Instr.index 131 (.agg #[.string ⟨#[]⟩,.string ⟨#[98,111,111,108]⟩,.string ⟨#[105,110,116]⟩,.string ⟨#[102,108,111,97,116]⟩,.string ⟨#[116,101,120,116]⟩,.string ⟨#[98,121,116,101,115]⟩,.string ⟨#[111,112,116]⟩,.string ⟨#[108,105,115,116]⟩]) (.int .i64 (j:Nat))).run Tryz.prog w=.ok (.string ⟨(kw j).toArray⟩) w:=by
 have h8:j=0∨j=1∨j=2∨j=3∨j=4∨j=5∨j=6∨j=7:=by omega
 rcases h8 with rfl | rfl | rfl | rfl | rfl | rfl | rfl | rfl
 ·exact tC w
 ·exact tB w
 ·exact tA w
 ·exact tw w
 ·exact tv w
 ·exact tu w
 ·exact tm w
 ·exact tl w
theorem Hv.kwc{w:World}(h:Hv w)(i:Nat):w.cell? ⟨0,i,none⟩=kwC[i]?:=World.var?_cell gKw h.kw i
theorem qQ(wd:Tx.Bs)(w:World)(h:Hv w):Calls Tryz.prog 122 #[.string ⟨wd.toArray⟩] w fun e w'=>e=.returned (.int .i64 (Tx.kindOf wd))∧w'=w:=by
 have c0:=h.kwc 0
 have c1:=h.kwc 1
 have c2:=h.kwc 2
 have c3:=h.kwc 3
 have c4:=h.kwc 4
 have c5:=h.kwc 5
 have c6:=h.kwc 6
 have c7:=h.kwc 7
 simp only[kwC,List.getElem?_toArray,List.getElem?_cons_zero,List.getElem?_cons_succ] at c0 c1 c2 c3 c4 c5 c6 c7
 obtain⟨K,hK⟩:∃K,K=Tx.kindOf wd:=⟨_,rfl⟩
 rw[<-hK]
 have HK:=tQ hK
 clear h hK
 go_enter Tryz.func122,Tryz.ntmps122
 go_wp2_with fail
 go_loopw [6] (fun v6 wr=>wr=w∧∃j:Nat,j<=8∧v6=.int .i64 (j:Nat)∧Hid (∀i,i<j->kw i≠wd)) (fun v6 _=>8-(intOf v6).toNat)
 case atStart=>exact⟨rfl,0,Nat.zero_le _,rfl,fun i hi=>by omega⟩
 case round=>
  obtain⟨hwr,j,hj,rfl,HU⟩:=hrel
  subst hwr
  have e7:(ByteArray.mk wd.toArray).toList=wd:=by rw[ByteArray.toList_eq]
  by_cases hlt:j<8
  ·have f1:(j:Int)<8:=by omega
   have hix:=sU j hlt wr
   obtain⟨X,hX⟩:∃X,X=kw j:=⟨_,rfl⟩
   rw[<-hX] at hix
   have e8:(ByteArray.mk X.toArray).toList=X:=by rw[ByteArray.toList_eq]
   by_cases hx:X=wd
   ·have HKj:Hid (K=(j:Int)):=by show _=_;rw[HK.out,<-hx,hX];exact qO hlt
    have e6:(X==wd)=true:=by rw[beq_iff_eq];exact hx
    clear HU hX hx
    go_wp2
    go_ret
    exact⟨by rw[HKj.out];rfl,rfl⟩
   ·have HJ:Hid (∀i,i<j+1->kw i≠wd):=fun i hi=>by
     by_cases hij:i=j
     ·rw[hij,<-hX];exact hx
     ·exact HU.out i (by omega)
    have e6:(X==wd)=false:=by rw[beq_eq_false_iff_ne];exact hx
    clear HU hX hx
    go_wp2
    go_roundw
    case rel=>exact⟨trivial,j+1,by omega,by go_num,HJ⟩
    case measure=>simp[intOf];omega
  ·obtain rfl:j=8:=by omega
   have HK0:Hid (K=0):=by show _=_;rw[HK.out];exact qN HU.out
   clear HU
   go_wp2
   go_ret
   exact⟨by rw[HK0.out];rfl,rfl⟩
end
end Go.Proofs.YtllbniljgcgbeaaGreatDoor
