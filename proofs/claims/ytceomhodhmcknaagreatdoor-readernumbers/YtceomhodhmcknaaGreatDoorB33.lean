import Derived.Test.YtceomhodhmcknaaGreatDoorB16
import Derived.Test.YtceomhodhmcknaaGreatDoorB27
import Derived.Deep.RegionLaw
import Derived.Test.YtceomhodhmcknaaGreatDoorB03
set_option maxRecDepth 100000
set_option maxHeartbeats 4000000
namespace Go.Proofs.YtceomhodhmcknaaGreatDoor
variable{A B c:Nat}{w:World}{l:L8}{p:OA}
section
open Go.RowKit
def cD(p:OA)(n c:Nat):OA:=if c=n then p else p.map (·.add n)
theorem cF(K:IntKind)(p:OA)(len c n:Nat)(h:n<=len)(w:World):(Instr.slice 22 (.slice p len c) (some (.int K n)) none none).run Tryz.prog w=.ok (.slice (cD p n c) (len-n) (c-n)) w:=by
 have hs:(sizeOf (Tryz.prog.elem 22)).run Tryz.prog w=.ok 1 w:=by kernel_rfl
 rw[run_slice_l w 22 p len c (by kernel_rfl) K (n:Int) (by omega) (by omega),hs]
 simp[sliced,cD,Result.andThen]
theorem lA(K:IntKind)(p:OA)(len c n:Nat)(h:n<=c)(w:World):(Instr.slice 22 (.slice p len c) none (some (.int K n)) none).run Tryz.prog w=.ok (.slice (eM p c) n c) w:=by
 have hs:(sizeOf (Tryz.prog.elem 22)).run Tryz.prog w=.ok 1 w:=by kernel_rfl
 rw[run_slice_h w 22 p len c (by kernel_rfl) K (n:Int) (by omega) (by omega),hs]
 simp[sliced,eM,Result.andThen]
theorem gM(a:Addr)(n:Nat):(a.add n).block=a.block:=by
 unfold Addr.add
 split <;> rfl
theorem ks{n:Nat}(h:∀a,p=some a->a.block<A):∀a,cD p n c=some a->a.block<A:=by
 intro a ha
 unfold cD at ha
 split at ha
 ·exact h a ha
 ·cases p with
  |none=>cases ha
  |some b=>
   simp only[Option.map_some,Option.some.injEq] at ha
   subst ha
   rw[gM]
   exact h b rfl
theorem nL(h:∀a,p=some a->a.block<A):∀a,eM p c=some a->a.block<A:=by
 intro a ha
 unfold eM at ha
 split at ha
 ·exact h a ha
 ·cases p with
  |none=>cases ha
  |some b=>
   simp only[Option.map_some,Option.some.injEq] at ha
   subst ha
   rw[gM]
   exact h b rfl
theorem At.cut10(h:At w p l)(n c:Nat)(hc:l.length<=c):At w (cD p n c) (l.drop n):=by
 by_cases h0:l.length<=n
 ·exact .inl (List.drop_eq_nil_of_le h0)
 ·obtain⟨b,o,rfl,hb,hcs⟩:=aZ h (by omega)
  refine .inr ⟨b,o+n,?_,hb,dx hcs n⟩
  unfold cD
  rw[if_neg (by omega),Option.map_some,Lib.add_plain]
structure AtB(w:World)(B:Nat)(p:OA)(l:L8):Prop where
 at_:At w p l
 low:l≠[]->∀a,p=some a->a.block<B
theorem AtB.keep{w':World}(h:AtB w B p l)(hb:Below B w w'):AtB w' B p l:=by
 refine⟨?_,h.low⟩
 rcases h.at_ with rfl | ⟨b,o,rfl,hl,hcs⟩
 ·exact .inl rfl
 ·refine .inr ⟨b,o,rfl,by have:=hb.size;omega,fun j hj=>?_⟩
  rw[World.cell?_of_block (w:=w) (hb.block b (h.low (List.ne_nil_of_length_pos (by omega)) _ rfl))]
  exact hcs j hj
theorem AtB.cut(h:AtB w B p l)(n c:Nat)(hc:l.length<=c):AtB w B (cD p n c) (l.drop n) :=
 ⟨h.at_.cut10 n c hc,fun hne=>ks (h.low (fun he=>hne (by rw[he];simp)))⟩
theorem AtB.head(h:AtB w B p l)(n c:Nat):AtB w B (eM p c) (l.take n) :=
 ⟨h.at_.head n c,fun hne=>nL (h.low (fun he=>hne (by rw[he];simp)))⟩
theorem At.atB(h:At w p l){B:Nat}(hB:w.1.size<=B):AtB w B p l:=by
 refine⟨h,fun hne a ha=>?_⟩
 rcases h with rfl | ⟨b,o,rfl,hl,hcs⟩
 ·exact absurd rfl hne
 ·injection ha with ha;subst ha;show b<B;omega
def sK(w:World)(B:Nat)(k:Blk.Tk)(e:Ending)(w':World):Prop :=
 ∃q m cap q' m' c',e=.returned (.tuple #[.slice q m cap,.slice q' m' c',.int .i64 (k.err:Nat)])∧(k.err=0->m=k.out.length∧Has w' B (.slice q m cap) k.out∧m'=k.rest.length∧k.rest.length<=c'∧AtB w' B q' k.rest)∧Below B w w'
theorem jO{v:Value}{xs:L8}(hown:Has w B v xs)(h:At w p l)(hlen:xs.length+l.length<=140737488355328)(hB:B<=w.1.size){ops:Array Oper}{o:Oper}{a:Act}{K:Act->World->Prop}{Q:Exit->Act->World->Prop}{E:Prop}(s x:Operand)(ht:o.type=22)(hg:o.guard=none)(hop:o.op=Op.call { callee:=Callee.builtin Builtin.append,args:=#[s,x],argTypes:=#[22,22] })(hs:a.eval s=v)(hx:a.eval x=.slice p l.length c)(hK:∀q cap W ys,Hid (ys=xs++l)->Has W B (.slice q ys.length cap) ys->Below B w W->K (a.put o.dst (.slice q ys.length cap)) W):
  if Region.wanted o (yielded ops a.tmps)=true then Oper.wp Tryz.prog o a w K Q else E:=by
 have hw:Region.wanted o (yielded ops a.tmps)=true:=by simp[Region.wanted,hg]
 rw[if_pos hw]
 obtain⟨q,cap,W,⟨hr⟩,hm,ha,-,hb3⟩:=dG B v xs l p c w hown h hlen hB
 unfold Oper.wp
 have he:(execOp a.eval o).run Tryz.prog w=.ok (.value (.slice q (xs++l).length cap)) W:=by
  simp only[execOp,hop,resolve,invoke,builtin]
  simp[hs,hx,ht,hr,Result.andThen]
 rw[he]
 exact hK q cap W (xs++l) (xQ rfl) hm (aE ha hown hB)
theorem qN(out t:L8)(n:Nat)(hn:n<18446744073709551616)(B:Nat)(vb:Value)(q:OA)(c:Nat)(w:World)(hB:B<=w.1.size)(ho:out.length<=2048)(ht:t.length<=140737488351232)(htc:t.length<=c)(hb:Has w B vb out)(hq:AtB w B q t):
    Calls Tryz.prog 144 #[vb,.slice q t.length c,.int .u64 n] w (sK w B (Blk.takeL out t n)):=by
  obtain⟨r,hr⟩:∃r,r=Blk.takeL out t n:=⟨_,rfl⟩
  rw[<-hr]
  unfold Blk.takeL at hr
  obtain⟨p,cap,rfl,hp,hcap⟩:=hb.at
  have HHas:=xQ hb
  have HQ:=xQ hq
  clear hb hq hp
  by_cases h0:n=0
  · subst h0
    rw[if_pos rfl] at hr
    have HR:=xQ hr
    clear hr
    go_enter Tryz.func144,Tryz.ntmps144
    go_wp2
    try rw[Exit.noGoto_ret]
    go_ret3
    rw[HR.out]
    exact⟨none,0,0,none,0,0,rfl,fun h=>(by cases h),xZ⟩
  · rw[if_neg h0] at hr
    have g0:((n:Int)==0)=false:=by rw[beq_eq_false_iff_ne];omega
    by_cases h1:2048-out.length<n
    · rw[if_pos h1] at hr
      have g1:(2048-(out.length:Int)) % 18446744073709551616<(n:Int):=by omega
      have HR:=xQ hr
      clear hr
      go_enter Tryz.func144,Tryz.ntmps144
      go_wp2
      try rw[Exit.noGoto_ret]
      go_ret3
      rw[HR.out]
      exact⟨none,0,0,none,0,0,rfl,fun h=>(by cases h),xZ⟩
    · rw[if_neg h1] at hr
      have g1:¬(2048-(out.length:Int)) % 18446744073709551616<(n:Int):=by omega
      by_cases h2:t.length<n
      · rw[if_pos h2] at hr
        have HR:=xQ hr
        clear hr
        go_enter Tryz.func144,Tryz.ntmps144
        go_wp2
        try rw[Exit.noGoto_ret]
        go_ret3
        rw[HR.out]
        exact⟨none,0,0,none,0,0,rfl,fun h=>(by cases h),xZ⟩
      · rw[if_neg h2] at hr
        have s1:=fun w=>lA .u64 q t.length c n (by omega) w
        have s2:=fun w=>cF .u64 q t.length c n (by omega) w
        have htl:(t.take n).length=n:=by rw[List.length_take];omega
        have HT:=xQ (HQ.out.head n c)
        have HD:=xQ (HQ.out.cut n c htc)
        obtain⟨t0,ht0⟩:∃t0,t0=t.take n:=⟨_,rfl⟩
        rw[<-ht0] at htl HT hr
        obtain⟨q1,hq1⟩:∃q1,q1=eM q c:=⟨_,rfl⟩
        obtain⟨q2,hq2⟩:∃q2,q2=cD q n c:=⟨_,rfl⟩
        obtain⟨m2,hm2⟩:∃m2,m2=t.length-n:=⟨_,rfl⟩
        obtain⟨c2,hc2⟩:∃c2,c2=c-n:=⟨_,rfl⟩
        rw[<-hq1] at HT s1
        rw[<-hq2] at HD s2
        rw[<-hm2] at s2
        rw[<-hc2] at s2
        have HR:=xQ hr
        have HM2:Hid (m2=t.length-n∧m2<=c2):=⟨hm2,by omega⟩
        clear hr ht0 hq1 hq2 hm2 hc2
        subst htl
        go_enter Tryz.func144,Tryz.ntmps144
        go_wp2_with fail
        go_region_law (first
          | (refine jO (B:=B) (v:=.slice p out.length cap) (xs:=out) (l:=t0) (p:=q1) (c:=c) (by exact HHas.out) (by exact HT.out.at_) (by omega) (by exact hB) (.tmp 25) (.tmp 28) (by rfl) (by rfl) (by rfl) (by simp[Act.eval,Act.put]) (by simp[Act.eval,Act.put]) ?_
             intro q3 cap3 W ys HY hH hBl
             have HH:=xQ hH
             have HB:Hid (Below B w W):=⟨hBl.os,hBl.tape,hBl.output,hBl.size,hBl.block⟩
             clear hH hBl)
          |fail)
        all_goals
          go_wp2
          try rw[Exit.noGoto_ret]
          go_ret3
          rw[HR.out,<-HY.out]
          exact⟨_,_,_,_,_,_,rfl,fun _=>⟨rfl,HH.out,by rw[HM2.out.1];simp,by have:=HM2.out;simp;omega,HD.out.keep HB.out⟩,HB.out⟩
end
section
open Go.RowKit
theorem jB(t:L8)(h:(Leb.get t).err≠0):eB t 0=.tuple #[.int .u64 0,.int .i64 0,.int .i64 ((Leb.get t).err:Nat)]:=by
 have hb:=Leb.getF_bad 10 true t h
 refine eA t 0 _ h ?_
 rw[List.drop_zero]
 show Leb.get t=_
 obtain⟨h1,h2⟩:=hb
 have e1:(Leb.get t).n=0:=h1
 have e2:(Leb.get t).k=0:=h2
 generalize Leb.get t=g at e1 e2
 cases g
 simp_all
theorem lW(t:L8)(h:(Leb.get t).err=0):eB t 0=.tuple #[.int .u64 ((Leb.get t).n:Nat),.int .i64 ((Leb.get t).k:Nat),.int .i64 0]:=by
 have:=kh t 0 (Leb.get t).n (Leb.get t).k (by
  rw[List.drop_zero]
  generalize Leb.get t=g at h
  cases g
  simp_all)
 rw[show((0:Nat):Int)=0 from rfl,Int.zero_add] at this
 exact this
theorem dE(w:World)(B k:Nat)(hk:k≠0):sK w B ⟨k,[],[]⟩ (.returned (.tuple #[.slice none 0 0,.slice none 0 0,.int .i64 (k:Nat)])) w :=
 ⟨none,0,0,none,0,0,rfl,fun h=>absurd h hk,xZ⟩
theorem pU{g cap:Nat}(h:bU w B g cap l)(i:Nat)(hi:i<l.length):w.cell? ⟨g,i,none⟩=some (.int .u8 ((l.getD i 0).toNat:Int)):=by
 have:=h.free.2.1 i hi
 rw[Nat.zero_add] at this
 rw[this,List.getD_eq_getElem?_getD,List.getElem?_eq_getElem hi]
 rfl
theorem qM(out t:L8)(n:Nat)(hn:n<18446744073709551616)(B:Nat)(vb:Value)(q:OA)(c:Nat)(w:World)(hB:B<=w.1.size)(ho:out.length<=2048)(ht:t.length<=140737488351232)(htc:t.length<=c)(hb:Has w B vb out)(hq:AtB w B q t):
  Calls Tryz.prog 145 #[vb,.slice q t.length c,.int .u64 n] w (sK w B (Blk.takeM out t n)):=by
 obtain⟨r,hr⟩:∃r,r=Blk.takeM out t n:=⟨_,rfl⟩
 rw[<-hr]
 unfold Blk.takeM at hr
 have HG:=xQ (fA q c t 0 ht htc w hq.at_)
 obtain⟨p,cap,rfl,hp,hcap⟩:=hb.at
 have HHas:=xQ hb
 have HQ:=xQ hq
 clear hb hq hp
 by_cases h0:n<4∨255<n
 ·rw[if_pos h0] at hr
  have HR:=xQ hr
  clear hr
  by_cases h4:n<4
  all_goals
   have h255:n<4∨255<n:=h0
   clear h0
   try have h255':255<n:=by omega
   go_enter Tryz.func145,Tryz.ntmps145
   go_wp2
   try rw[Exit.noGoto_ret]
   go_ret3
   rw[HR.out]
   exact dE w B 5 (by decide)
 ·rw[if_neg h0] at hr
  have g4:¬n<4:=by omega
  have g255:¬255<n:=by omega
  clear h0
  by_cases h1:(Leb.get t).err≠0
  ·rw[if_pos h1] at hr
   have HV:Hid (eB t 0=.tuple #[.int .u64 0,.int .i64 0,.int .i64 ((Leb.get t).err:Nat)]):=jB t h1
   rw[HV.out] at HG
   have g1:(((Leb.get t).err:Int)==0)=false:=by rw[beq_eq_false_iff_ne];omega
   obtain⟨er,her⟩:∃er,er=(Leb.get t).err:=⟨_,rfl⟩
   rw[<-her] at HG g1 hr h1
   have HR:=xQ hr
   clear hr HV her
   go_enter Tryz.func145,Tryz.ntmps145
   go_wp2_with fail
   refine HG.out.mono ?_
   rintro e w' ⟨rfl,hw⟩
   rw[hw]
   clear hw w'
   go_wp2
   try rw[Exit.noGoto_ret]
   go_ret3
   rw[HR.out]
   exact dE w B er h1
  ·rw[if_neg h1] at hr
   have hok:=Leb.get_ok t (by omega)
   have HV:Hid (eB t 0=.tuple #[.int .u64 ((Leb.get t).n:Nat),.int .i64 ((Leb.get t).k:Nat),.int .i64 0]):=lW t (by omega)
   rw[HV.out] at HG
   obtain⟨d,hd⟩:∃d,d=(Leb.get t).n:=⟨_,rfl⟩
   obtain⟨k,hk⟩:∃k,k=(Leb.get t).k:=⟨_,rfl⟩
   rw[<-hd,<-hk] at HG hr hok
   have hd64:=hok.1
   have hkl:=hok.2.2.1
   clear HV hd hk h1 hok
   by_cases h2:d=0∨1024<d∨out.length<d
   ·rw[if_pos h2] at hr
    have HR:=xQ hr
    clear hr
    by_cases a0:d=0
    ·subst a0
     clear h2
     go_enter Tryz.func145,Tryz.ntmps145
     go_wp2_with fail
     refine HG.out.mono ?_
     rintro e w' ⟨rfl,hw⟩
     rw[hw]
     clear hw w'
     go_wp2
     try rw[Exit.noGoto_ret]
     go_ret3
     rw[HR.out]
     exact dE w B 5 (by decide)
    ·have g0:((d:Int)==0)=false:=by rw[beq_eq_false_iff_ne];omega
     by_cases a1:1024<d
     ·clear h2
      go_enter Tryz.func145,Tryz.ntmps145
      go_wp2_with fail
      refine HG.out.mono ?_
      rintro e w' ⟨rfl,hw⟩
      rw[hw]
      clear hw w'
      go_wp2
      try rw[Exit.noGoto_ret]
      go_ret3
      rw[HR.out]
      exact dE w B 5 (by decide)
     ·have a2:out.length<d:=by omega
      clear h2
      go_enter Tryz.func145,Tryz.ntmps145
      go_wp2_with fail
      refine HG.out.mono ?_
      rintro e w' ⟨rfl,hw⟩
      rw[hw]
      clear hw w'
      go_wp2
      try rw[Exit.noGoto_ret]
      go_ret3
      rw[HR.out]
      exact dE w B 5 (by decide)
   ·rw[if_neg h2] at hr
    have g0:((d:Int)==0)=false:=by rw[beq_eq_false_iff_ne];omega
    have a0:1<=d:=by omega
    have a1:¬1024<d:=by omega
    have a2:¬out.length<d:=by omega
    clear h2
    by_cases h3:2048-out.length<n
    ·rw[if_pos h3] at hr
     have HR:=xQ hr
     clear hr
     go_enter Tryz.func145,Tryz.ntmps145
     go_wp2_with fail
     refine HG.out.mono ?_
     rintro e w' ⟨rfl,hw⟩
     rw[hw]
     clear hw w'
     go_wp2
     try rw[Exit.noGoto_ret]
     go_ret3
     rw[HR.out]
     exact dE w B 2 (by decide)
    ·rw[if_neg h3] at hr
     have HR:=xQ hr
     have g3:¬(2048-(out.length:Int)) % 18446744073709551616<(n:Int):=by omega
     have s2:=fun w=>cF .i64 q t.length c k (by omega) w
     have HD:=xQ (HQ.out.cut k c htc)
     obtain⟨q2,hq2⟩:∃q2,q2=cD q k c:=⟨_,rfl⟩
     obtain⟨m2,hm2⟩:∃m2,m2=t.length-k:=⟨_,rfl⟩
     obtain⟨c2,hc2⟩:∃c2,c2=c-k:=⟨_,rfl⟩
     rw[<-hq2] at HD s2
     rw[<-hm2,<-hc2] at s2
     have HM2:Hid (m2=t.length-k∧m2<=c2):=⟨hm2,by omega⟩
     clear hr hq2 hm2 hc2
     go_enter Tryz.func145,Tryz.ntmps145
     go_wp2_with fail
     refine HG.out.mono ?_
     rintro e w' ⟨rfl,hw⟩
     rw[hw]
     clear hw w'
     go_wp2_with fail
     go_loopw [0,50] (fun v0 v50 wr=>∃(i m cap':Nat) (g:Nat),i<=n∧m=out.length+i∧v0=.slice (some ⟨g,0,none⟩) m cap'∧v50=.int .u64 i∧Hid (bU wr B g cap' (Blk.copyB i d out)∧Below B w wr)) (fun _ v50 _=>n-(intOf v50).toNat)
     case atStart=>
      rcases HHas.out.form with ⟨h5,h6⟩ | ⟨g,cap',h5,h6⟩
      ·rw[h6] at a2;simp at a2;omega
      ·exact⟨0,out.length,cap',g,Nat.zero_le _,rfl,h5,rfl,h6,xZ⟩
     case round=>
      obtain⟨i,m,cap',g,hi,hm,rfl,rfl,HK⟩:=hrel
      have hlen:=Blk.copyB_length i d out
      by_cases hin:i<n
      ·have hcell:=pU HK.out.1 (m-d) (by omega)
       have hsn:=Blk.copyB_snoc i d out
       rw[hlen,<-hm] at hsn
       obtain⟨ch,hch⟩:∃ch,ch=(Blk.copyB i d out).getD (m-d) 0:=⟨_,rfl⟩
       rw[<-hch] at hcell hsn
       have HS:=xQ hsn
       have hc256:ch.toNat<256:=ch.toNat_lt
       have hB2:=HK.out.2.size
       have HO:Hid (Has wr B (.slice (some ⟨g,0,none⟩) m cap') (Blk.copyB i d out)):=by
        have:=HK.out.1.has
        rw[hlen,<-hm] at this
        exact this
       have hdm:d<=m:=by omega
       have hm2:m<=4096:=by omega
       have HM:=xQ hm
       have HL:=xQ hlen
       clear hsn hch hm hlen
       go_wp2_with (at_builtin;refine eE HO.out ch (by rw[HL.out];omega) (by omega) (by rfl) rfl rfl rfl rfl rfl ?_;intro g2 cap2 W hmine hb)
       go_roundw
       case rel=>
        refine⟨i+1,m+1,cap2,g2,by omega,by rw[HM.out];omega,by rw[HL.out,<-HM.out],by go_num,?_,HK.out.2.trans hb⟩
        rw[HS.out];exact hmine
       case measure=>simp[intOf];omega
      ·have hin2:i=n:=by omega
       subst hin2
       have HM:=xQ hm
       have HL:=xQ hlen
       clear hm hlen hin
       go_wp2_with fail
       go_region_law fail
       go_wp2
       try rw[Exit.noGoto_ret]
       go_ret3
       rw[HR.out]
       have HBd:Below B w wr.drew:=⟨HK.out.2.os,HK.out.2.tape,HK.out.2.output,HK.out.2.size,HK.out.2.block⟩
       refine⟨some ⟨g,0,none⟩,m,cap',q2,m2,c2,by simp[Act.put],fun _=>⟨?_,?_,?_,?_,HD.out.keep HBd⟩,HBd⟩
       ·rw[HM.out];exact HL.out.symm
       ·have:=HK.out.1.has
        rw[HL.out,<-HM.out] at this
        exact this
       ·rw[HM2.out.1];simp
       ·have:=HM2.out;simp;omega
end
section
open Go.RowKit
def sO(w:World)(r:Blk.Res)(e:Ending)(w':World):Prop :=
 ∃q m cap,e=.returned (.tuple #[.slice q m cap,.int .i64 (r.err:Nat)])∧m=r.out.length∧Has w' w.1.size (.slice q m cap) r.out∧Below w.1.size w w'
theorem iX(t:L8)(q:OA)(c:Nat)(w:World)(ht:t.length<=140737488351232)(htc:t.length<=c)(hq:At w q t):
  Calls Tryz.prog 108 #[.slice q t.length c] w (sO w (Blk.toks [] t)):=by
 have HQ:=xQ (hq.atB (Nat.le_refl w.1.size))
 clear hq
 go_enter Tryz.func108,Tryz.ntmps108
 go_wp2_with fail
 go_step3
 go_wp2_with fail
 go_step3
 go_wp2_with fail
 go_loopw [0,4,5] (fun v0 v4 v5 wr=>∃(out t':L8) (q':OA) (c':Nat),v0=.slice q' t'.length c'∧v5=.int .i64 0∧out.length<=2048∧t'.length<=140737488351232∧t'.length<=c'∧Hid (AtB wr w.1.size q' t'∧Has wr w.1.size v4 out∧Below w.1.size w wr∧Blk.toks [] t=Blk.toks out t')) (fun v0 _ _ _=>i8 v0)
 case atStart=>exact⟨[],t,q,c,rfl,rfl,by simp,ht,htc,HQ.out,aX _ _,xZ,rfl⟩
 case round=>
  obtain⟨out,t',q',c',rfl,rfl,ho2,ht2,htc2,HK⟩:=hrel
  obtain⟨p,cap,rfl,-,hcap⟩:=HK.out.2.1.at
  have HAt:=xQ HK.out.1
  have HHas:=xQ HK.out.2.1
  have HBl:=xQ HK.out.2.2.1
  have HEq:=xQ HK.out.2.2.2
  have hB2:=HBl.out.size
  clear HK
  by_cases hend:t'.length=0
  ·have he:t'=[]:=List.eq_nil_of_length_eq_zero hend
   subst he
   clear hend
   go_wp2
   try rw[Exit.noGoto_ret]
   go_ret2
   refine⟨p,out.length,cap,?_,?_,?_,HBl.out⟩
   ·rw[HEq.out,Blk.toks_nil];rfl
   ·rw[HEq.out,Blk.toks_nil]
   ·rw[HEq.out,Blk.toks_nil];exact HHas.out
  ·have hpos:0<t'.length:=by omega
   have HG:=xQ (fA q' c' t' 0 ht2 htc2 wr HAt.out.at_)
   by_cases hge:(Leb.get t').err≠0
   ·have HV:=xQ (jB t' hge)
    rw[HV.out] at HG
    have hse:Blk.step out t'=⟨(Leb.get t').err,[],[]⟩:=by unfold Blk.step;rw[if_pos hge]
    have HTK:=xQ (Blk.toks_err (out:=out) (List.ne_nil_of_length_pos hpos) (by rw[hse];exact hge))
    rw[hse] at HTK
    obtain⟨er,her⟩:∃er,er=(Leb.get t').err:=⟨_,rfl⟩
    rw[<-her] at HTK HG hge
    have ge:((er:Int)==0)=false:=by rw[beq_eq_false_iff_ne];omega
    have s2:=fun w=>cF .i64 q' t'.length c' 0 (by omega) w
    clear her HV hse
    go_wp2_with fail
    refine HG.out.mono ?_
    rintro e w' ⟨rfl,hw⟩
    rw[hw]
    clear hw w'
    go_wp2
    try rw[Exit.noGoto_ret]
    go_ret2
    refine⟨none,0,0,?_,?_,?_,HBl.out⟩
    ·rw[HEq.out,HTK.out];rfl
    ·rw[HEq.out,HTK.out];rfl
    ·rw[HEq.out,HTK.out];exact aX _ _
   ·have hok:=Leb.get_ok t' (by omega)
    have HV:=xQ (lW t' (by omega))
    rw[HV.out] at HG
    have hkl:=hok.2.2.1
    have s2:=fun w=>cF .i64 q' t'.length c' (Leb.get t').k hkl w
    have HC:=xQ (HAt.out.cut (Leb.get t').k c' htc2)
    have hn64:=hok.1
    have hsl:Blk.step out t'=if (Leb.get t').n % 2=0 then Blk.takeL out (t'.drop (Leb.get t').k) ((Leb.get t').n / 2) else Blk.takeM out (t'.drop (Leb.get t').k) ((Leb.get t').n / 2):=by
     conv=>lhs;unfold Blk.step
     rw[if_neg hge]
    have hdl:(t'.drop (Leb.get t').k).length=t'.length-(Leb.get t').k:=List.length_drop
    obtain⟨n,hn⟩:∃n,n=(Leb.get t').n:=⟨_,rfl⟩
    obtain⟨kk,hkk⟩:∃kk,kk=(Leb.get t').k:=⟨_,rfl⟩
    rw[<-hn,<-hkk] at HG hsl
    rw[<-hkk] at s2 HC hkl hdl
    rw[<-hn] at hn64
    obtain⟨q1,hq1⟩:∃q1,q1=cD q' kk c':=⟨_,rfl⟩
    obtain⟨c1,hc1⟩:∃c1,c1=c'-kk:=⟨_,rfl⟩
    obtain⟨t1,ht1⟩:∃t1,t1=t'.drop kk:=⟨_,rfl⟩
    rw[<-ht1] at HC hsl hdl
    rw[<-hq1] at HC
    rw[<-hq1,<-hc1,<-hdl] at s2
    have HST0:=xQ hsl
    have hd2:t1.length<=t'.length:=by omega
    have hd3:t1.length<=c1:=by omega
    have HL:Hid (∀z:Int,z=((n / 2:Nat):Int)->Calls Tryz.prog 144 #[.slice p out.length cap,.slice q1 t1.length c1,.int .u64 z] wr (sK wr w.1.size (Blk.takeL out t1 (n / 2)))):=fun z hz=>by
     subst hz
     exact qN out t1 (n / 2) (by omega) w.1.size _ q1 c1 wr hB2 ho2 (by omega) hd3 HHas.out HC.out
    have HM:Hid (∀z:Int,z=((n / 2:Nat):Int)->Calls Tryz.prog 145 #[.slice p out.length cap,.slice q1 t1.length c1,.int .u64 z] wr (sK wr w.1.size (Blk.takeM out t1 (n / 2)))):=fun z hz=>by
     subst hz
     exact qM out t1 (n / 2) (by omega) w.1.size _ q1 c1 wr hB2 ho2 (by omega) hd3 HHas.out HC.out
    clear hok HV hge hsl hn hkk hq1 hc1 ht1 hdl
    by_cases hpar:n % 2=0
    ·have gp:((n:Int) % 2==0)=true:=by rw[beq_iff_eq];omega
     have hst:Blk.step out t'=Blk.takeL out t1 (n / 2):=by rw[HST0.out,if_pos hpar]
     rw[<-hst] at HL
     clear hst HST0 HM hpar
     go_wp2_with fail
     refine HG.out.mono ?_
     rintro e w' ⟨rfl,hw⟩
     rw[hw]
     clear hw w'
     go_wp2_with fail
     refine(HL.out _ (by omega)).mono ?_
     rintro e w2 ⟨qq,mm,cc,q2,m2,c2,rfl,H4,H5⟩
     by_cases hk:(Blk.step out t').err=0
     ·have HOK:=xQ (H4 hk)
      have HST:=xQ (Blk.step_ok hk ho2)
      have HTK:=xQ (Blk.toks_step (List.ne_nil_of_length_pos (by omega)) ho2 hk)
      have hl1:=HST.out.1
      have hl2:=HST.out.2
      obtain⟨e1,-,e3,e4,-⟩:=H4 hk
      obtain⟨k,hkk⟩:∃k,k=Blk.step out t':=⟨_,rfl⟩
      rw[<-hkk] at HOK HTK hl1 hl2 e1 e3 e4 hk ⊢
      rw[hk]
      subst e1
      subst e3
      clear H4 hkk HST
      go_wp2_with fail
      go_roundw
      case rel=>exact⟨k.out,k.rest,q2,c2,rfl,rfl,hl1,by omega,e4,HOK.out.2.2.2.2,HOK.out.2.1,HBl.out.trans H5,HEq.out.trans HTK.out⟩
      case measure=>simp[i8];exact hl2
     ·have HTK:=xQ (Blk.toks_err (List.ne_nil_of_length_pos (by omega)) hk)
      obtain⟨er,her⟩:∃er,er=(Blk.step out t').err:=⟨_,rfl⟩
      rw[<-her] at HTK hk ⊢
      have ge:((er:Int)==0)=false:=by rw[beq_eq_false_iff_ne];omega
      clear H4 her
      go_wp2
      try rw[Exit.noGoto_ret]
      go_ret2
      refine⟨none,0,0,?_,?_,?_,HBl.out.trans H5⟩
      ·rw[HEq.out,HTK.out];rfl
      ·rw[HEq.out,HTK.out];rfl
      ·rw[HEq.out,HTK.out];exact aX _ _
    ·have gp:((n:Int) % 2==0)=false:=by rw[beq_eq_false_iff_ne];omega
     have hst:Blk.step out t'=Blk.takeM out t1 (n / 2):=by rw[HST0.out,if_neg hpar]
     rw[<-hst] at HM
     clear hst HST0 HL hpar
     go_wp2_with fail
     refine HG.out.mono ?_
     rintro e w' ⟨rfl,hw⟩
     rw[hw]
     clear hw w'
     go_wp2_with fail
     refine(HM.out _ (by omega)).mono ?_
     rintro e w2 ⟨qq,mm,cc,q2,m2,c2,rfl,H4,H5⟩
     by_cases hk:(Blk.step out t').err=0
     ·have HOK:=xQ (H4 hk)
      have HST:=xQ (Blk.step_ok hk ho2)
      have HTK:=xQ (Blk.toks_step (List.ne_nil_of_length_pos (by omega)) ho2 hk)
      have hl1:=HST.out.1
      have hl2:=HST.out.2
      obtain⟨e1,-,e3,e4,-⟩:=H4 hk
      obtain⟨k,hkk⟩:∃k,k=Blk.step out t':=⟨_,rfl⟩
      rw[<-hkk] at HOK HTK hl1 hl2 e1 e3 e4 hk ⊢
      rw[hk]
      subst e1
      subst e3
      clear H4 hkk HST
      go_wp2_with fail
      go_roundw
      case rel=>exact⟨k.out,k.rest,q2,c2,rfl,rfl,hl1,by omega,e4,HOK.out.2.2.2.2,HOK.out.2.1,HBl.out.trans H5,HEq.out.trans HTK.out⟩
      case measure=>simp[i8];exact hl2
     ·have HTK:=xQ (Blk.toks_err (List.ne_nil_of_length_pos (by omega)) hk)
      obtain⟨er,her⟩:∃er,er=(Blk.step out t').err:=⟨_,rfl⟩
      rw[<-her] at HTK hk ⊢
      have ge:((er:Int)==0)=false:=by rw[beq_eq_false_iff_ne];omega
      clear H4 her
      go_wp2
      try rw[Exit.noGoto_ret]
      go_ret2
      refine⟨none,0,0,?_,?_,?_,HBl.out.trans H5⟩
      ·rw[HEq.out,HTK.out];rfl
      ·rw[HEq.out,HTK.out];rfl
      ·rw[HEq.out,HTK.out];exact aX _ _
end
section
open Go.RowKit
theorem sZ(l:L8)(q:OA)(c:Nat)(w:World)(hl:l.length<=140737488351232)(hlc:l.length<=c)(hq:At w q l):
  Calls Tryz.prog 82 #[.slice q l.length c] w (sO w (Blk.unpack l)):=by
 cases l with
 |nil=>
  go_enter Tryz.func82,Tryz.ntmps82
  go_wp2
  go_ret2
  exact⟨none,0,0,rfl,rfl,aX _ _,xZ⟩
 |cons ch r=>
  obtain⟨b,o,rfl,hb,hcs⟩:=aZ hq (by simp)
  have c0:w.cell? ⟨b,o,none⟩=some (.int .u8 (ch.toNat:Int)):=hcs 0 (by simp)
  have HC:Hid (At w (cD (some ⟨b,o,none⟩) 1 c) r):=hq.cut10 1 c hlc
  have hlen:(ch::r).length=r.length+1:=rfl
  obtain⟨q1,hq1⟩:∃q1,q1=cD (some ⟨b,o,none⟩) 1 c:=⟨_,rfl⟩
  obtain⟨c1,hc1⟩:∃c1,c1=c-1:=⟨_,rfl⟩
  have hc256:ch.toNat<256:=ch.toNat_lt
  have hu:Blk.unpack (ch::r)=if ch.toNat=1 then Blk.toks [] r else if ch.toNat≠0 then ⟨5,[]⟩ else if 2048<r.length then ⟨2,[]⟩ else ⟨0,r⟩:=rfl
  obtain⟨res,hres⟩:∃res,res=Blk.unpack (ch::r):=⟨_,rfl⟩
  rw[<-hres] at hu ⊢
  rw[<-hq1] at HC
  have s2:∀n,n=r.length+1->∀w,(Instr.slice 22 (.slice (some ⟨b,o,none⟩) n c) (some (.int .i64 1)) none none).run Tryz.prog w=.ok (.slice q1 r.length c1) w:=fun n hn w=>by
   have:=cF .i64 (some ⟨b,o,none⟩) n c 1 (by omega) w
   rw[<-hq1,<-hc1,show n-1=r.length by omega] at this
   exact this
  rw[hlen]
  rw[hlen] at hl hlc
  have hc1r:r.length<=c1:=by omega
  obtain⟨n,hn⟩:∃n,n=r.length+1:=⟨_,rfl⟩
  have s3:=s2 n hn
  rw[<-hn]
  have hnr:r.length=n-1:=by omega
  have hn1:1<=n:=by omega
  have hn2:n<=140737488351232:=by omega
  clear hlen hq1 hc1 hcs hq s2 hres
  have HN:=xQ hn
  obtain⟨cv,hcv⟩:∃cv,cv=ch.toNat:=⟨_,rfl⟩
  rw[<-hcv] at c0 hc256 hu
  by_cases h1:cv=1
  ·rw[if_pos h1] at hu
   have HT:=xQ (iX r q1 c1 w (by omega) hc1r HC.out)
   rw[<-hu] at HT
   subst h1
   clear hcv hu hn hnr
   go_enter Tryz.func82,Tryz.ntmps82
   go_wp2_with fail
   refine HT.out.mono ?_
   rintro e w' ⟨q3,m3,cap3,rfl,hm3,hh,hb3⟩
   subst hm3
   have HH:=xQ hh
   have HB:=xQ hb3
   clear hh hb3
   go_wp2
   go_ret2
   exact⟨q3,_,cap3,rfl,rfl,HH.out,HB.out⟩
  ·rw[if_neg h1] at hu
   have g1:((cv:Int)==1)=false:=by rw[beq_eq_false_iff_ne];omega
   by_cases h0:cv≠0
   ·rw[if_pos h0] at hu
    have g0:((cv:Int) != 0)=true:=by rw[bne_iff_ne];omega
    have HU:=xQ hu
    clear hcv hu hn hnr h1 h0
    go_enter Tryz.func82,Tryz.ntmps82
    go_wp2
    go_ret2
    rw[HU.out]
    exact⟨none,0,0,rfl,rfl,aX _ _,xZ⟩
   ·rw[if_neg h0] at hu
    have h00:cv=0:=by omega
    subst h00
    clear h1 h0 g1
    by_cases h2:2048<r.length
    ·rw[if_pos h2] at hu
     have HU:=xQ hu
     have g2:2048<n-1:=by omega
     clear hcv hu hn hnr h2
     go_enter Tryz.func82,Tryz.ntmps82
     go_wp2
     go_ret2
     rw[HU.out]
     exact⟨none,0,0,rfl,rfl,aX _ _,xZ⟩
    ·rw[if_neg h2] at hu
     have HU:=xQ hu
     have g2:¬2048<n-1:=by omega
     have hr2:r.length<=2048:=by omega
     clear hcv hu hn hnr h2
     go_enter Tryz.func82,Tryz.ntmps82
     go_wp2_with (at_builtin;refine aK (aX w w.1.size) HC.out (by simp;omega) xX rfl rfl rfl rfl rfl ?_;intro ys q3 cap3 W HY hh ha hk)
     have HB:=xQ (aE ha (aX w w.1.size) xX)
     have HH:=xQ hh
     clear ha hk hh
     go_wp2
     go_ret2
     rw[HU.out]
     have e:ys=r:=HY.out
     rw[e] at HH
     rw[e]
     exact⟨q3,_,cap3,rfl,rfl,HH.out,HB.out⟩
end
end Go.Proofs.YtceomhodhmcknaaGreatDoor
