import Derived.Test.YtlgfdgdlaahpfaaGreatDoorB02
import Derived.Deep.RegionHeld3
set_option maxRecDepth 100000
set_option maxHeartbeats 4000000
namespace Go.Proofs.YtlgfdgdlaahpfaaGreatDoor
section
open Go.RowKit
def fR(l:L8)(k:Nat):Prop:=k<=l.length∧(∀j (h:j<l.length),j<k->l[j]≠0)∧∀h:k<l.length,l[k]=0
theorem jG(b o c:Nat)(l:L8)(hl:l.length<=140737488351232)(w:World)(hc:cg w b o l):
    Calls Tryz.prog 138 #[.slice (some ⟨b,o,none⟩) l.length c] w fun e w'=>∃k:Nat,e=.returned (.int .i64 k)∧fR l k∧w'=w:=by
  have HC:=vQ hc
  clear hc
  go_enter Tryz.func138,Tryz.ntmps138
  go_wp2
  go_loop [3,4,7] (fun _ _ vi=>∃i:Nat,i<=l.length∧vi=.int .i64 i∧Hid (∀j (h:j<l.length),j<i->l[j]≠0)) (fun _ _ vi=>l.length-(intOf vi).toNat)
  case atStart=>exact⟨0,by omega,rfl,fun j _ hj=>by omega⟩
  case round=>
    obtain⟨i,hi,rfl,HZ⟩:=hrel
    by_cases hlt:i<l.length
    · have hc1:=HC.out i hlt
      have hlt':(i:Int)<(l.length:Int):=by omega
      by_cases h0:l[i]=0
      · have hF:Hid (fR l i):=⟨by omega,HZ.out,fun _=>h0⟩
        have hb:((l[i].toNat:Int)==0)=true:=by rw[h0];rfl
        clear HZ h0
        go_wp2
        go_ret
        exact⟨i,rfl,hF.out,rfl⟩
      · have HZ2:Hid (∀j (h:j<l.length),j<i+1->l[j]≠0):=fun j h hj=>by
          rcases Nat.lt_succ_iff_lt_or_eq.1 hj with h1 | h1
          · exact HZ.out j h h1
          · subst h1;exact h0
        have hb:((l[i].toNat:Int)==0)=false:=by
          rw[beq_eq_false_iff_ne]
          intro hc
          exact h0 (UInt8.toNat_inj.1 (by have:l[i].toNat=0:=by omega
                                          rw[this];rfl))
        clear HZ h0
        go_wp2
        go_round
        case rel=>exact⟨i+1,by omega,by go_num,HZ2⟩
        case measure=>simp[intOf];omega
    · have hii:i=l.length:=by omega
      subst hii
      have hF:Hid (fR l l.length):=⟨vX,HZ.out,fun h=>by omega⟩
      clear HZ
      go_wp2
      go_ret
      exact⟨_,rfl,hF.out,rfl⟩
theorem io(p:OA)(c:Nat)(w:World):
  Calls Tryz.prog 138 #[.slice p 0 c] w fun e w'=>e=.returned (.int .i64 0)∧w'=w:=by
 go_enter Tryz.func138,Tryz.ntmps138
 go_wp2
 go_loop [3,4,7] (fun _ _ vi=>vi=.int .i64 0) (fun _ _ _=>0)
 case atStart=>exact rfl
 case round=>
  subst hrel
  go_wp2
  go_ret
  exact⟨rfl,rfl⟩
theorem fk(p:OA)(c:Nat)(l:L8)(hl:l.length<=140737488351232)(w:World)(h:At w p l):
  Calls Tryz.prog 138 #[.slice p l.length c] w fun e w'=>∃k:Nat,e=.returned (.int .i64 k)∧fR l k∧w'=w:=by
 rcases h with rfl | ⟨b,o,rfl,_,hc⟩
 ·refine(io p c w).mono ?_
  rintro e w' ⟨rfl,rfl⟩
  exact⟨0,rfl,⟨vX,fun j h=>by simp at h,fun h=>by simp at h⟩,rfl⟩
 ·exact jG b o c l hl w hc
end
section
open Go.RowKit
theorem fu{w:World}{b o:Nat}{l:L8}(h:At w (some ⟨b,o,none⟩) l)(k:Nat):At w (some ⟨b,o+k,none⟩) (l.drop k):=by
 rcases h with rfl | ⟨b,o,hp,h1,h2⟩
 ·exact .inl (by simp)
 ·cases hp
  exact .inr ⟨_,_,rfl,h1,dO h2 k⟩
theorem at_take{w:World}{p:OA}{l:L8}(h:At w p l)(k:Nat):At w p (l.take k):=by
 rcases h with rfl | ⟨b,o,rfl,h1,h2⟩
 ·exact .inl (by simp)
 ·exact .inr ⟨b,o,rfl,h1,dN h2 k⟩
section
open Cob
theorem lD{l xs:L8}{a k m:Nat}(h:Writing l a true xs)(hm:m=min (l.length-a) 254)(hF:fR ((l.drop a).take m) k):
  (k=l.length-a->stuff l=xs++[UInt8.ofNat (k+1)]++(l.drop a).take k)∧(k<l.length-a->k<254->Writing l (a+k+1) true (xs++[UInt8.ofNat (k+1)]++(l.drop a).take k)) ∧
  (k<l.length-a->¬k<254->Writing l (a+k) true (xs++[UInt8.ofNat (k+1)]++(l.drop a).take k))∧k<=254∧k<=l.length-a∧xs.length+1+k<=l.length+1+l.length / 254:=by
 obtain⟨h1,h2,h3⟩:=hF
 have ha:=h.1
 have hml:((l.drop a).take m).length=m:=by rw[List.length_take,List.length_drop];omega
 rw[hml] at h1
 have hz:∀j,j<k->∀h:a+j<l.length,l[a+j]≠0:=fun j hj hlt=>by
  have:=h2 j (by rw[hml];omega) hj
  rwa [List.getElem_take,List.getElem_drop] at this
 have hlen:∀ys:L8,ys=xs++[UInt8.ofNat (k+1)]++(l.drop a).take k->ys.length<=l.length+1+l.length / 254->xs.length+1+k<=l.length+1+l.length / 254:=fun ys e hy=>by
  rw[e] at hy
  simp only[List.length_append,List.length_cons,List.length_nil,List.length_take,List.length_drop] at hy
  omega
 by_cases h254:k<254
 ·by_cases hend:a+k=l.length
  ·have hw:=writing_end h h254 hend hz
   exact⟨fun _=>hw.2.2 rfl,fun hc=>by omega,fun hc=>by omega,by omega,by omega,hlen _ rfl (writing_bound hw)⟩
  ·have h0:l[a+k]'(by omega)=0:=by
    have:=h3 (by rw[hml];omega)
    rwa [List.getElem_take,List.getElem_drop] at this
   have hw:=writing_zero h h254 (by omega) hz h0
   exact⟨fun hc=>by omega,fun _ _=>hw,fun _ hc=>absurd h254 hc,by omega,by omega,hlen _ rfl (writing_bound hw)⟩
 ·have hk:k=254:=by omega
  subst hk
  have hw:=writing_full h (by omega) hz
  refine⟨fun hc=>hw.2.2 (decide_eq_false (by omega)),fun _ hc=>absurd hc h254,fun hc _=>?_,by omega,by omega,hlen _ rfl (writing_bound hw)⟩
  rw[decide_eq_true (show a+254<l.length by omega)] at hw
  exact hw
end
theorem ef{P : Program}{f : FuncId}{fn : Func}{c : Code}(hf : P.funcs[f]?=some fn)(hname : (fn.name== "runtime.NumGoroutine")=false)(hb : fn.body=some c)(args : AV)(w : World):
  (callFunc f args).run P w=.ok (.enter f args) w:=by
 have h1 : fn.name≠ "runtime.NumGoroutine" := by simpa using hname
 simp[callFunc,hf,h1,hb]
def mw:Value->Nat
 |.slice _ n _=>n
 |_=>0
theorem dV(f:FuncId)(g:Addr)(I:L8->World->Prop)(p:OA)(c:Nat)(l:L8)(w:World)(hl:l.length<=1073741824)(hlc:l.length<=c)(hE:∀(args:AV) (w:World),(callFunc f args).run Tryz.prog w=.ok (.enter f args) w)(hA:∀xs w',I xs w'->At w' p l)(hI:I [] w)(hT:∀xs q k t w',I xs w'->(∀ys w'',I ys w''->At w'' q t)->t.length<=254->xs.length+1+t.length<=2147483648->t.length<=k ->
   Calls Tryz.prog f #[.slice q t.length k,.pointer (some g)] w' fun e w''=>e=.returned (.tuple #[])∧I (xs++[UInt8.ofNat (t.length+1)]++t) w''):
  Calls Tryz.prog 108 #[.slice p l.length c,.func (.func f) #[] #[.pointer (some g)]] w fun e w'=>e=.returned (.tuple #[])∧I (Cob.stuff l) w':=by
 have HA:=vQ hA
 have HI:=vQ hI
 have HT:=vQ hT
 clear hA hI hT
 go_enter Tryz.func108,Tryz.ntmps108
 go_wp2
 go_loopw [0,4] (fun v0 _ wr=>∃(a n:Nat) (xs:L8) (q:OA) (d:Nat),a+n=l.length∧v0=.slice q n d∧n<=d∧Hid ((∀ys w',I ys w'->At w' q (l.drop a))∧Cob.Writing l a true xs∧I xs wr)) (fun v0 _ _=>mw v0)
 case atStart=>exact⟨0,l.length,[],p,c,by omega,rfl,hlc,HA.out,Cob.writing_start l,HI.out⟩
 case round=>
  obtain⟨a,n,xs,q,d,han,rfl,hnd,HK⟩:=hrel
  obtain⟨m,hm0⟩:∃m,m=min (l.length-a) 254:=⟨_,rfl⟩
  have hmin:(if (254:Int)<(n:Int) then (254:Int) else (n:Int))=(m:Int):=by split <;> omega
  have hmd:m<=d:=by omega
  have hml:((l.drop a).take m).length=m:=by rw[List.length_take,List.length_drop];omega
  have hF:=fk q d ((l.drop a).take m) (by omega) wr (at_take (HK.out.1 _ _ HK.out.2.2) m)
  rw[hml] at hF
  have HF:=vQ hF
  have HM:=vQ hm0
  clear hF hm0 hml
  go_wp2_with fail
  refine HF.out.mono ?_
  rintro e w1 ⟨k,rfl,hFz,rfl⟩
  have HR:=vQ (lD HK.out.2.1 HM.out hFz)
  have hkn:k<=n:=by have:=HR.out.2.2.2.2.1;omega
  have hk254:=HR.out.2.2.2.1
  have hxb:=HR.out.2.2.2.2.2
  have hkl:((l.drop a).take k).length=k:=by rw[List.length_take,List.length_drop];omega
  have hc:=HT.out xs q d ((l.drop a).take k) w1 HK.out.2.2 (fun ys w'' h=>at_take (HK.out.1 ys w'' h) k) (by omega) (by omega) (by omega)
  rw[hkl] at hc
  have HCl:=vQ hc
  clear hFz hc hkl HF
  go_wp2_with fail
  refine HCl.out.mono ?_
  rintro e w2 ⟨rfl,hI2⟩
  have HI2:=vQ hI2
  clear hI2 HCl
  by_cases hend:k=n
  ·subst hend
   have hz:((k:Int)-(k:Int)==0)=true:=by simp
   go_wp2
   all_goals
    refine bodyPost_ret (results_none rfl _ _ _) rfl ?_
    rw[HR.out.1 (by omega)]
    exact⟨rfl,HI2.out⟩
  ·obtain⟨b,o,rfl,-⟩:=bz (HK.out.1 _ _ HI2.out) (by rw[List.length_drop];omega)
   by_cases h254:k<254
   ·have h254':(k:Int)<254:=by omega
    go_wp2
    go_roundw
    case rel=>
     refine⟨a+k+1,n-k-1,_,_,_,by omega,rfl,by omega,fun ys w' hI'=>?_,HR.out.2.1 (by omega) h254,HI2.out⟩
     have h1:=fu (fu (HK.out.1 ys w' hI') k) 1
     rw[List.drop_drop,List.drop_drop] at h1
     split
     ·exact .inl (List.drop_eq_nil_of_le (by omega))
     ·exact h1
    case measure=>simp[mw];omega
   ·go_wp2
    go_roundw
    case rel=>
     refine⟨a+k,n-k,_,_,_,by omega,rfl,by omega,fun ys w' hI'=>?_,HR.out.2.2.1 (by omega) h254,HI2.out⟩
     have h1:=fu (HK.out.1 ys w' hI') k
     rw[List.drop_drop] at h1
     exact h1
    case measure=>simp[mw];omega
end
section
open Go.RowKit
theorem one_cell{w:World}{b:Nat}{v:Value}{T:TypeId}(h:w.1[b]?=some (.cells #[v] T (0,0))):w.cell? ⟨b,0,none⟩=some v:=by
 simp[World.cell?,h]
theorem bJ{w:World}{b:Nat}{v:Value}{T:TypeId}(h:w.1[b]?=some (.cells #[v] T (0,0))):w.frozen? ⟨b,0,none⟩=false:=by
 simp[World.frozen?,h]
theorem one_set{w:World}{b:Nat}{v:Value}{T:TypeId}(h:w.1[b]?=some (.cells #[v] T (0,0)))(u:Value):(w.setCell ⟨b,0,none⟩ u).1[b]?=some (.cells #[u] T (0,0)):=by
 simp[World.setCell,Array.getElem?_modify,h]
theorem qh{w:World}{b:Nat}{o:Obj}(h:w.1[b]?=some o):b<w.1.size:=(Array.getElem?_eq_some_iff.1 h).1
structure Var(w:World)(B g s cap:Nat)(xs:L8):Prop where
 box:w.1[g]?=some (.cells #[.slice (some ⟨s,0,none⟩) xs.length cap] 31 (0,0))
 mine:bh w B s cap xs
theorem mr{w:World}{B s cap:Nat}{xs:L8}(h:bh w B s cap xs):∃cur,w.1[s]?=some (.cells cur 5 (0,0)):=by
 rcases h.2 with ⟨h1,_⟩ | ⟨g,c,cur,h1,_,h2,_⟩
 ·cases h1
 ·cases h1;exact⟨cur,h2⟩
theorem eo{w:World}{B s cap g:Nat}{xs:L8}{C:AV}{T:TypeId}(h:bh w B s cap xs)(hg:w.1[g]?=some (.cells C T (0,0)))(hT:T≠5):s≠g:=by
 rintro rfl
 obtain⟨cur,hc⟩:=mr h
 rw[hc] at hg
 injection hg with h1
 injection h1 with h2 h3
 exact hT h3.symm
theorem cY{w W:World}{B s cap b:Nat}{xs:L8}(h:bh w B s cap xs)(hg:w.grownBy W (some b))(hne:s≠b):bh W B s cap xs :=
 World.ownsRow.kept h hg (.inr (fun hc=>hne (Option.some.inj hc)))
theorem bo(W:World)(b:Nat)(v:Value):W.grownBy (W.setCell ⟨b,0,none⟩ v) (some b) :=
 ⟨rfl,rfl,rfl,by simp[World.setCell],fun i _ hne=>Below.heap_setCell _ _ _ _ (fun hc=>hne (by rw[hc]))⟩
theorem kV{a b c:World}{row:Option Nat}(h:a.grownBy b row)(k:b.grownBy c row):a.grownBy c row :=
 ⟨k.os.trans h.os,k.tape.trans h.tape,k.output.trans h.output,Nat.le_trans h.size k.size,fun i hi hne=>(k.block i (Nat.lt_of_lt_of_le hi h.size) hne).trans (h.block i hi hne)⟩
theorem mF(w:World)(row:Option Nat):w.grownBy w row:=⟨rfl,rfl,rfl,vX,fun _ _ _=>rfl⟩
theorem Var.ne{w:World}{B g s cap:Nat}{xs:L8}(h:Var w B g s cap xs):s≠g:=eo h.mine h.box (by decide)
theorem Var.still{w W:World}{B g s cap:Nat}{xs:L8}(h:Var w B g s cap xs)(hg:w.grownBy W (some s)):W.1[g]?=some (.cells #[.slice (some ⟨s,0,none⟩) xs.length cap] 31 (0,0)) :=
 (hg.block g (qh h.box) (fun hc=>h.ne (Option.some.inj hc).symm)).trans h.box
theorem ek{W:World}{B g s s' cap cap' n:Nat}{ys:L8}(hb:W.1[g]?=some (.cells #[.slice (some ⟨s,0,none⟩) n cap] 31 (0,0)))(hm:bh W B s' cap' ys):
  Var (W.setCell ⟨g,0,none⟩ (.slice (some ⟨s',0,none⟩) ys.length cap')) B g s' cap' ys :=
 ⟨one_set hb _,cY hm (bo W g _) (eo hm hb (by decide))⟩
theorem ks(B s cap:Nat)(xs l:L8)(p:OA)(c:Nat)(w:World)(hown:bh w B s cap xs)(h:At w p l)(hlen:xs.length+l.length<=140737488355328)(hB:B<=w.1.size):
  ∃(s' cap':Nat) (W:World),bC Tryz.prog 31 31 31 (.slice (some ⟨s,0,none⟩) xs.length cap) (.slice p l.length c) w (.slice (some ⟨s',0,none⟩) (xs++l).length cap') W∧bh W B s' cap' (xs++l)∧w.grownBy W (some s):=by
 obtain⟨i,hi,hz,hsz,hby⟩:=info_parts fZ
 cases p with
 |none=>
  have h0:l=[]:=by
   rcases h with rfl | ⟨b,o,hp,_,_⟩
   ·rfl
   ·cases hp
  subst h0
  have hr:=run_append_room_src (P:=Tryz.prog) w 31 31 31 5 i Tryz.underlying31 hi s 0 xs.length cap (.slice none 0 c) 0 [] (by rw[hsz];exact fG c h) (by have:=hown.base.2.2;omega) (fun j hj=>by simp at hj) (fun j hj=>by simp at hj)
  refine⟨s,cap,w,⟨?_⟩,by rw[List.append_nil];exact hown,mF _ _⟩
  rw[List.append_nil]
  exact hr
 |some a=>
  have hcells:∀j u,(cellsOf l)[j]?=some u->w.cell? (a.add j)=some u:=fun j u hj=>by
   have hj2:j<l.length:=by
    have:=(List.getElem?_eq_some_iff.1 hj).1
    simpa[cellsOf] using this
   rcases h with rfl | ⟨b,o,hp,_,hc⟩
   ·simp at hj2
   ·cases hp
    rw[aY l j hj2] at hj
    cases hj
    rw[Lib.add_plain]
    exact hc j hj2
  obtain⟨v',W,hr,hown',hgr,hnil⟩:=run_append_own (P:=Tryz.prog) w B 31 31 5 i (.int .u8 0) 1 1 Tryz.underlying31 hi hz hsz hby rfl (by decide) _ xs.length (cellsOf xs) hown a l.length c (cellsOf l) (by rw[aK,Nat.mul_one]) hcells
   (fun u hu=>by obtain⟨_,_,rfl⟩:=List.mem_map.1 hu;rfl) (by unfold maxLen;omega) (by omega) hB
  rw[<-bL,<-List.length_append] at hown'
  have hform:∃g' cap',v'=.slice (some ⟨g',0,none⟩) (xs++l).length cap':=by
   rcases hown'.2 with ⟨h1,_⟩ | ⟨g',cap',_,h1,_⟩
   ·have:=(hnil.1 h1).1
    cases this
   ·exact⟨g',cap',h1⟩
  obtain⟨g',cap',rfl⟩:=hform
  exact⟨g',cap',W,⟨hr⟩,hown',hgr⟩
theorem ke{B s cap:Nat}{xs:L8}{w:World}(hown:bh w B s cap xs)(c:UInt8)(hlen:xs.length+1<=140737488355328)(hB:B<=w.1.size){z:Int}{ops:Array Oper}{rest:List Oper}{o:Oper}{a:Act}{Q:Exit->Act->World->Prop}{y x:Operand}(hz:z=(c.toNat:Int))(ht:o.type=31)(hg:o.guard=none)(hop:o.op=Op.call { callee:=Callee.builtin Builtin.append,args:=#[y,x],argTypes:=#[31,31] })(hs:a.eval y=.slice (some ⟨s,0,none⟩) xs.length cap){ad:Nat}(hx:a.eval x=.slice (some ⟨ad,0,none⟩) 1 1)(had:ad=w.1.size)(hK:∀ys s' cap' W,Hid (ys=xs++[c])->bh W B s' cap' ys->w.grownBy W (some s)->wpList Tryz.prog ops Q rest (a.put o.dst (.slice (some ⟨s',0,none⟩) ys.length cap')) W):
  wpList Tryz.prog ops Q (o::rest) a (w.alloc (.cells #[.int .u8 z] 5)):=by
 subst had
 have hat:At (w.alloc (.cells #[.int .u8 z] 5)) (some ⟨w.1.size,0,none⟩) [c]:=by
  refine .inr ⟨_,_,rfl,by simp,fun j hj=>?_⟩
  have hj0:j=0:=by simp at hj;omega
  subst hj0
  rw[World.cell?_alloc_new,hz]
  rfl
 have hg0:=World.grownBy_alloc w (.cells #[.int .u8 z] 5) (some s)
 obtain⟨s',cap',W,hr,hm,hgr⟩:=ks B s cap xs [c] (some ⟨w.1.size,0,none⟩) 1 _ (World.ownsRow.alloc hown _) hat (by simpa using hlen) (Nat.le_trans hB hg0.size)
 have hr':bC Tryz.prog 31 31 o.type (.slice (some ⟨s,0,none⟩) xs.length cap) (.slice (some ⟨w.1.size,0,none⟩) 1 1) (w.alloc (.cells #[.int .u8 z] 5)) (.slice (some ⟨s',0,none⟩) (xs++[c]).length cap') W:=by rw[ht];exact hr
 exact az hr' hg hop hs hx (hK _ s' cap' W (vQ rfl) hm (kV hg0 hgr))
theorem gJ{B s cap:Nat}{xs l:L8}{p:OA}{k:Nat}{w:World}(hown:bh w B s cap xs)(h:At w p l)(hlen:xs.length+l.length<=140737488355328)(hB:B<=w.1.size){ops:Array Oper}{rest:List Oper}{o:Oper}{a:Act}{Q:Exit->Act->World->Prop}{y x:Operand}(ht:o.type=31)(hg:o.guard=none)(hop:o.op=Op.call { callee:=Callee.builtin Builtin.append,args:=#[y,x],argTypes:=#[31,31] })(hs:a.eval y=.slice (some ⟨s,0,none⟩) xs.length cap)(hx:a.eval x=.slice p l.length k)(hK:∀ys s' cap' W,Hid (ys=xs++l)->bh W B s' cap' ys->w.grownBy W (some s)->wpList Tryz.prog ops Q rest (a.put o.dst (.slice (some ⟨s',0,none⟩) ys.length cap')) W):
  wpList Tryz.prog ops Q (o::rest) a w:=by
 obtain⟨s',cap',W,hr,hm,hgr⟩:=ks B s cap xs l p k w hown h hlen hB
 have hr':bC Tryz.prog 31 31 o.type (.slice (some ⟨s,0,none⟩) xs.length cap) (.slice p l.length k) w (.slice (some ⟨s',0,none⟩) (xs++l).length cap') W:=by rw[ht];exact hr
 exact az hr' hg hop hs hx (hK _ s' cap' W (vQ rfl) hm hgr)
end
section
open Go.RowKit
def uh(w:World)(xs:L8)(w':World):Prop:=Below w.1.size w w'∧w'.1[w.1.size]?=some (.cells #[.int .i64 xs.length] 3 (0,0))
theorem qB(w:World)(xs t:L8)(q:OA)(k:Nat)(w':World)(h:uh w xs w')(hb:xs.length+1+t.length<=2147483648):
  Calls Tryz.prog 137 #[.slice q t.length k,.pointer (some ⟨w.1.size,0,none⟩)] w' fun e w''=>e=.returned (.tuple #[])∧uh w (xs++[UInt8.ofNat (t.length+1)]++t) w'':=by
 have hc:=one_cell h.2
 have hf:=bJ h.2
 have H:=vQ h
 clear h
 go_enter Tryz.func137,Tryz.ntmps137
 go_wp2
 go_end0
 refine⟨rfl,H.out.1.setCell vX _,?_⟩
 rw[one_set H.out.2]
 simp
 omega
theorem vf(p:OA)(c:Nat)(l:L8)(w:World)(hl:l.length<=1073741824)(hlc:l.length<=c)(h:At w p l):
  Calls Tryz.prog 107 #[.slice p l.length c] w fun e w'=>e=.returned (.int .i64 ((Cob.stuff l).length:Nat))∧Below w.1.size w w':=by
 have HA:=vQ h
 clear h
 go_enter Tryz.func107,Tryz.ntmps107
 go_wp2_with fail
 refine(dV 137 ⟨w.1.size,0,none⟩ (uh w) p c l _ hl hlc (fun args w=>ef Tryz.func137 (by kernel_rfl) rfl args w) (fun xs w' hi=>HA.out.on hi.1) ?_ (fun xs q k t w' hi _ _ hb _=>qB w xs t q k w' hi hb)).mono ?_
 ·exact⟨vY,bK w _⟩
 ·rintro e w1 ⟨rfl,hi⟩
  have hc:=one_cell hi.2
  have HB:=vQ hi.1
  clear hi
  go_wp2
  go_ret
  exact⟨rfl,HB.out⟩
end
section
open Go.RowKit
def sN(w:World)(g:Nat)(xs:L8)(w':World):Prop:=Below w.1.size w w'∧w.1.size<=g∧∃s cap,Var w' w.1.size g s cap xs
theorem fF{w W W':World}{s:Nat}(h:Below w.1.size w W)(hs:w.1.size<=s)(hg:W.grownBy W' (some s)):Below w.1.size w W' :=
 h.grown hg h.size (fun k hk=>by cases hk;exact hs)
theorem pA(w:World)(g:Nat)(xs t:L8)(q:OA)(k:Nat)(w':World)(h:sN w g xs w')(hq:∀ys w'',sN w g ys w''->At w'' q t)(ht:t.length<=254)(hb:xs.length+1+t.length<=2147483648):
    Calls Tryz.prog 109 #[.slice q t.length k,.pointer (some ⟨g,0,none⟩)] w' fun e w''=>e=.returned (.tuple #[])∧sN w g (xs++[UInt8.ofNat (t.length+1)]++t) w'':=by
  obtain⟨hbl,hg,s,cap,hv⟩:=h
  have hc:=one_cell hv.box
  have hcn:(UInt8.ofNat (t.length+1)).toNat=t.length+1:=Cob.len_byte _ ht
  have HQ:=vQ hq
  have HV:=vQ hv
  have HB:=vQ hbl
  have hB:=hbl.size
  clear hv hbl hq
  generalize UInt8.ofNat (t.length+1)=cc at hcn
  go_enter Tryz.func109,Tryz.ntmps109
  go_wp2_with (first
    | (at_builtin;refine ke HV.out.mine cc (by omega) hB (by omega) rfl rfl rfl rfl rfl rfl ?_;intro ys s1 cap1 W1 HY hm1 hg1
       have hf1:=bJ (HV.out.still hg1)
       have hc0:=one_cell (HV.out.still hg1)
       have HV1:=vQ (ek (HV.out.still hg1) hm1)
       have HB1:=vQ ((fF HB.out HV.out.mine.base.1 hg1).setCell (p:=⟨g,0,none⟩) hg (.slice (some ⟨s1,0,none⟩) ys.length cap1))
       have hc1:=one_cell HV1.out.box
       have HA1:=vQ (HQ.out _ _ ⟨HB1.out,hg,s1,cap1,HV1.out⟩)
       have hl1:ys.length<=xs.length+1:=by rw[HY.out];simp
       clear hm1 hg1)
    | (at_builtin;refine gJ HV1.out.mine HA1.out (by omega) HB1.out.size rfl rfl rfl rfl rfl ?_;intro zs s2 cap2 W2 HZ hm2 hg2
       have hf2:=bJ (HV1.out.still hg2)
       have hc2:=one_cell (HV1.out.still hg2)
       have HV2:=vQ (ek (HV1.out.still hg2) hm2)
       have HB2:=vQ ((fF HB1.out HV1.out.mine.base.1 hg2).setCell (p:=⟨g,0,none⟩) hg (.slice (some ⟨s2,0,none⟩) zs.length cap2))
       clear hm2 hg2))
  go_end0
  have hz:zs=xs++[cc]++t:=by rw[HZ.out,HY.out]
  rw[<-hz]
  exact⟨rfl,HB2.out,hg,s2,cap2,HV2.out⟩
theorem jw(p:OA)(c:Nat)(l:L8)(w:World)(hl:l.length<=1073741824)(hlc:l.length<=c)(h:At w p l):
    Calls Tryz.prog 73 #[.slice p l.length c] w fun e w'=>∃g o cap,e=.returned (.slice (some ⟨g,o,none⟩) (Cob.stuff l).length cap)∧ev w' g o (Cob.stuff l)∧w.1.size<=g∧(Cob.stuff l).length<=cap∧Below w.1.size w w':=by
  obtain⟨i0,hi,hz0,hz1,hz2⟩:=info_parts fZ
  have HA:=vQ h
  have hbd:=(Cob.stuff_length l).2
  obtain⟨n,hn⟩:∃n,n=(Cob.stuff l).length:=⟨_,rfl⟩
  have HLn:=vQ (vf p c l w hl hlc h)
  rw[<-hn] at HLn hbd
  clear h
  have HN:=vQ hn
  clear hn
  go_enter Tryz.func73,Tryz.ntmps73
  go_wp2_with fail
  refine HLn.out.mono ?_
  rintro e w1 ⟨rfl,hb1⟩
  have HB1:=vQ hb1
  have hB1:=hb1.size
  clear hb1
  go_wp2_with (first
    | (at_make;refine wpList_make_own _ rfl _ _ 31 rfl w.1.size 5 i0 (.int .u8 0) 1 Tryz.underlying31 hi hz0 hz1 .i64 .i64 n n rfl rfl rfl (by rw[hz2];omega) (by unfold maxLen;omega) hB1 ?_;intro w2 hown hgrow
       have HM2:Hid (bh w2 w.1.size w1.1.size n []):=hown
       have HG2:=vQ hgrow
       clear hown hgrow)
    |fail)
  have hs2:w1.1.size<=w2.1.size:=HG2.out.size
  have hB2:Below w.1.size w w2:=HB1.out.grown HG2.out hB1 (fun k hk=>by cases hk)
  refine(dV 109 ⟨w2.1.size,0,none⟩ (sN w w2.1.size) p c l _ hl hlc (fun args w=>ef Tryz.func109 (by kernel_rfl) rfl args w) (fun xs w' hi=>HA.out.on hi.1) ?_ (fun xs q k t w' hi hq ht hb _=>pA w w2.1.size xs t q k w' hi hq ht hb)).mono ?_
  · exact⟨hB2.alloc (by omega) _,by omega,w1.1.size,n,⟨bK w2 _,World.ownsRow.alloc HM2.out _⟩⟩
  · rintro e w3 ⟨rfl,hb3,hg3,s,cap,hv⟩
    have hc:=one_cell hv.box
    have HB3:=vQ hb3
    have HV:=vQ hv
    clear hb3 hv hB2
    go_wp2
    go_ret
    exact⟨s,0,cap,rfl,HV.out.mine.free,HV.out.mine.base.1,HV.out.mine.base.2.2,HB3.out⟩
end
section
open Go.RowKit
theorem gu(p:OA)(c:Nat)(v:Value)(w:World):Calls Tryz.prog 140 #[.slice p 0 c,v] w fun e w'=>e=.returned (.int .i64 30)∧w'=w:=by
 go_enter Tryz.func140,Tryz.ntmps140
 go_wp2
 go_ret
 exact⟨rfl,rfl⟩
theorem iL(f:FuncId)(g1 g2 g3:Addr)(J:L8->Nat->Nat->World->Prop)(b o c:Nat)(l:L8)(w:World)(hl:l.length<=140737488351232)(hlc:l.length<=c)(hne:l≠[])(hz:Cob.Nz l)(hE:∀(args:AV) (w:World),(callFunc f args).run Tryz.prog w=.ok (.enter f args) w)(hA:∀ys la ah w',J ys la ah w'->At w' (some ⟨b,o,none⟩) l)(hJ:J [] 0 0 w)(hT:∀ys la ah q k t w',J ys la ah w'->(∀ys la ah w'',J ys la ah w''->At w'' q t)->t.length<=254->ys.length+t.length+1<=140737488355328->la<=254 ->
   Calls Tryz.prog f #[.slice q t.length k,.pointer (some g1),.pointer (some g2),.pointer (some g3)] w' fun e w''=>e=.returned (.tuple #[])∧J (ys++t++if t.length<254 then [0] else []) t.length la w''):
  Calls Tryz.prog 140 #[.slice (some ⟨b,o,none⟩) l.length c,.func (.func f) #[] #[.pointer (some g1),.pointer (some g2),.pointer (some g3)]] w fun e w'=>
   ∃ys la ah,J ys la ah w'∧((e=.returned (.int .i64 30)∧Cob.un l=(30,[]))∨(e=.returned (.int .i64 0)∧Cob.Rd l l.length ys la ah)):=by
 have HA:=vQ hA
 have HJ:=vQ hJ
 have HT:=vQ hT
 have HZ:=vQ hz
 have hpos:0<l.length:=List.length_pos_iff.2 hne
 have HNe:=vQ hne
 have hne0:((l.length:Int)==0)=false:=by rw[beq_eq_false_iff_ne];omega
 clear hA hJ hT hz hne
 go_enter Tryz.func140,Tryz.ntmps140
 go_wp2
 go_loopw [0,5] (fun v0 _ wr=>∃(a n:Nat) (ys:L8) (la ah:Nat) (q:OA) (d:Nat),a+n=l.length∧v0=.slice q n d∧n<=d∧Hid ((∀ys la ah w',J ys la ah w'->At w' q (l.drop a))∧Cob.Rd l a ys la ah∧J ys la ah wr)) (fun v0 _ _=>mw v0)
 case atStart=>exact⟨0,l.length,[],0,0,_,c,by omega,rfl,hlc,HA.out,Cob.rd_start HNe.out,HJ.out⟩
 case round=>
  obtain⟨a,n,ys,la,ah,q,d,han,rfl,hnd,HK⟩:=hrel
  by_cases hn:n=0
  ·subst hn
   go_wp2
   go_ret
   obtain⟨-,h2,h3⟩:=HK.out
   rw[show a=l.length by omega] at h2
   exact⟨ys,la,ah,h3,.inr ⟨rfl,h2⟩⟩
  ·have hal:a<l.length:=by omega
   obtain⟨b1,o1,rfl,hlt1,hc1⟩:=bz (HK.out.1 _ _ _ _ HK.out.2.2) (by rw[List.length_drop];omega)
   have hcell:=hc1 0 (by rw[List.length_drop];omega)
   rw[List.getElem_drop] at hcell
   simp only[Nat.add_zero] at hcell
   have hz0:l[a]≠0:=HZ.out _ (List.getElem_mem hal)
   have hz1:1<=l[a].toNat:=by
    rcases Nat.eq_zero_or_pos l[a].toNat with h | h
    ·exact absurd (UInt8.toNat_inj.1 (by rw[h];rfl)) hz0
    ·exact h
   have hz2:=l[a].toNat_lt
   obtain⟨k,hk⟩:∃k,l[a].toNat=k+1:=⟨l[a].toNat-1,by omega⟩
   rw[hk] at hcell hz2
   have HKv:=vQ hk
   have HCa:=vQ (HK.out.1)
   clear hz0 hz1 hk hc1
   by_cases hsh:n<k+1
   ·go_wp2
    go_ret
    exact⟨ys,la,ah,HK.out.2.2,.inl ⟨rfl,Cob.rd_short HZ.out HK.out.2.1 hal (by have:=HKv.out;omega)⟩⟩
   ·have HRn:=vQ (Cob.rd_next HK.out.2.1 hal k HKv.out (by omega))
    have hle:=Cob.rd_le HK.out.2.1
    have htl:((l.drop (a+1)).take k).length=k:=by rw[List.length_take,List.length_drop];omega
    have hk254:k<=254:=by omega
    have hcT:∀(q':OA) (d':Nat),(∀ys la ah w',J ys la ah w'->At w' q' ((l.drop (a+1)).take k)) ->
      Calls Tryz.prog f #[.slice q' k d',.pointer (some g1),.pointer (some g2),.pointer (some g3)] wr fun e w''=>e=.returned (.tuple #[])∧J (ys++(l.drop (a+1)).take k++if k<254 then [0] else []) k la w'':=fun q' d' hq=>by
     have:=HT.out ys la ah q' d' ((l.drop (a+1)).take k) wr HK.out.2.2 hq (by omega) (by omega) (by omega)
     rw[htl] at this
     exact this
    have HCT:=vQ hcT
    clear hcT htl
    by_cases hd:d=1
    ·have hk0:k=0:=by omega
     subst hk0
     go_wp2_with fail
     refine(HCT.out _ _ (fun _ _ _ _ _=>.inl rfl)).mono ?_
     rintro e w2 ⟨rfl,hJ2⟩
     have HJ2:=vQ hJ2
     clear hJ2
     go_wp2
     go_roundw
     case rel=>
      refine⟨a+0+1,n-1,_,0,la,_,_,by omega,rfl,by omega,fun ys la ah w' hj=>?_,HRn.out,HJ2.out⟩
      exact .inl (List.drop_eq_nil_of_le (by omega))
     case measure=>simp[mw];omega
    ·go_wp2_with fail
     refine(HCT.out _ _ (fun _ _ _ _ hj=>?_)).mono ?_
     ·have h1:=at_take (fu (HCa.out _ _ _ _ hj) 1) k
      rw[List.drop_drop] at h1
      exact h1
     rintro e w2 ⟨rfl,hJ2⟩
     have HJ2:=vQ hJ2
     clear hJ2
     by_cases hdk:d=k+1
     ·subst hdk
      go_wp2
      go_roundw
      case rel=>
       refine⟨a+k+1,0,_,k,la,_,_,by omega,rfl,by omega,fun ys la ah w' hj=>?_,HRn.out,HJ2.out⟩
       exact .inl (List.drop_eq_nil_of_le (by omega))
      case measure=>simp[mw];omega
     ·go_wp2
      go_roundw
      case rel=>
       refine⟨a+k+1,n-(k+1),_,k,la,_,_,by omega,rfl,by omega,fun ys la ah w' hj=>?_,HRn.out,HJ2.out⟩
       have h1:=fu (HCa.out _ _ _ _ hj) (k+1)
       rw[List.drop_drop] at h1
       exact h1
      case measure=>simp[mw];omega
end
section
open Go.RowKit
structure UnI(w:World)(g:Nat)(ys:L8)(la ah:Nat)(w':World):Prop where
 below:Below w.1.size w w'
 base:w.1.size<=g
 var:∃s cap,Var w' w.1.size g s cap ys
 last:w'.1[g+2]?=some (.cells #[.int .i64 la] 3 (0,0))
 ahead:w'.1[g+1]?=some (.cells #[.int .i64 ah] 3 (0,0))
theorem cJ{W W':World}{s b:Nat}{o:Obj}(h:W.1[b]?=some o)(hg:W.grownBy W' (some s))(hne:b≠s):W'.1[b]?=some o :=
 (hg.block b (qh h) (fun hc=>hne (Option.some.inj hc))).trans h
theorem lC{w W W':World}{g s cap s' cap' la ah:Nat}{ys zs:L8}(hb:Below w.1.size w W)(hg:w.1.size<=g)(hv:Var W w.1.size g s cap ys)(hl:W.1[g+2]?=some (.cells #[.int .i64 la] 3 (0,0)))(ha:W.1[g+1]?=some (.cells #[.int .i64 ah] 3 (0,0)))(hm:bh W' w.1.size s' cap' zs)(hgr:W.grownBy W' (some s)):
  UnI w g zs la ah (W'.setCell ⟨g,0,none⟩ (.slice (some ⟨s',0,none⟩) zs.length cap')):=by
 have h2:=cJ hl hgr (fun hc=>eo hv.mine hl (by decide) hc.symm)
 have h1:=cJ ha hgr (fun hc=>eo hv.mine ha (by decide) hc.symm)
 refine⟨(fF hb hv.mine.base.1 hgr).setCell (p:=⟨g,0,none⟩) hg _,hg,⟨s',cap',ek (hv.still hgr) hm⟩,cJ h2 (bo W' g _) (by omega),cJ h1 (bo W' g _) (by omega)⟩
theorem na{w W:World}{g la ah:Nat}{ys:L8}(h:UnI w g ys la ah W)(n:Nat):
  UnI w g ys n la ((W.setCell ⟨g+1,0,none⟩ (.int .i64 la)).setCell ⟨g+2,0,none⟩ (.int .i64 n)):=by
 obtain⟨hb,hg,⟨s,cap,hv⟩,hl,ha⟩:=h
 have m1:=cY hv.mine (bo W (g+1) (.int .i64 la)) (eo hv.mine ha (by decide))
 have b1:=cJ hv.box (bo W (g+1) (.int .i64 la)) (by omega)
 have l1:=cJ hl (bo W (g+1) (.int .i64 la)) (by omega)
 have a1:=one_set ha (.int .i64 la)
 refine⟨(hb.setCell (p:=⟨g+1,0,none⟩) (by show w.1.size<=g+1;omega) _).setCell (p:=⟨g+2,0,none⟩) (by show w.1.size<=g+2;omega) _,hg,⟨s,cap,?_,?_⟩,one_set l1 _,cJ a1 (bo _ (g+2) _) (by omega)⟩
 ·exact cJ b1 (bo _ (g+2) _) (by omega)
 ·exact cY m1 (bo _ (g+2) _) (eo m1 l1 (by decide))
theorem rV(w:World)(g:Nat)(ys t:L8)(la ah:Nat)(q:OA)(k:Nat)(w':World)(h:UnI w g ys la ah w')(hq:∀ys la ah w'',UnI w g ys la ah w''->At w'' q t)(ht:t.length<=254)(hb:ys.length+t.length+1<=140737488355328):
    Calls Tryz.prog 141 #[.slice q t.length k,.pointer (some ⟨g,0,none⟩),.pointer (some ⟨g+2,0,none⟩),.pointer (some ⟨g+1,0,none⟩)] w' fun e w''=>e=.returned (.tuple #[])∧UnI w g (ys++t++if t.length<254 then [0] else []) t.length la w'':=by
  have HU:=vQ h
  obtain⟨hbl,hg,⟨s,cap,hv⟩,hl,ha⟩:=h
  have hc:=one_cell hv.box
  have HA0:=vQ (hq _ _ _ _ HU.out)
  have HV:=vQ hv
  have HB:=vQ hbl
  have HL:=vQ hl
  have HH:=vQ ha
  have hB:=hbl.size
  clear hv hbl hl ha hq
  by_cases h254:t.length<254
  · have h254':(t.length:Int)<254:=by omega
    rw[if_pos h254]
    go_enter Tryz.func141,Tryz.ntmps141
    go_wp2_with (first
      | (at_builtin;refine gJ HV.out.mine HA0.out (by omega) hB rfl rfl rfl rfl rfl ?_;intro zs s1 cap1 W1 HZ hm1 hg1
         have hf1:=bJ (HV.out.still hg1)
         have hc0:=one_cell (HV.out.still hg1)
         have HU1:=vQ (lC HB.out hg HV.out HL.out HH.out hm1 hg1)
         have HV1:=vQ (ek (HV.out.still hg1) hm1)
         have hc1:=one_cell HV1.out.box
         have hl1:zs.length<=ys.length+t.length:=by rw[HZ.out];simp
         clear hm1 hg1 HV HA0)
      | (at_builtin;refine ke HV1.out.mine 0 (by omega) HU1.out.below.size rfl rfl rfl rfl rfl rfl (by simp[World.setCell]) ?_;intro us s2 cap2 W2 HY hm2 hg2
         have hf2:=bJ (HV1.out.still hg2)
         have hc2:=one_cell (HV1.out.still hg2)
         have HU2:=vQ (lC HU1.out.below hg HV1.out HU1.out.last HU1.out.ahead hm2 hg2)
         have hcl:=one_cell HU2.out.last
         have hca:=one_cell HU2.out.ahead
         have hfl:=bJ HU2.out.last
         have hfa:=bJ HU2.out.ahead
         clear hm2 hg2 HV1))
    go_end0
    have hu:ys++t++[0]=us:=by rw[HY.out,HZ.out]
    rw[hu]
    exact⟨rfl,na HU2.out _⟩
  · rw[if_neg h254,List.append_nil]
    go_enter Tryz.func141,Tryz.ntmps141
    go_wp2_with (at_builtin;refine gJ HV.out.mine HA0.out (by omega) hB rfl rfl rfl rfl rfl ?_;intro zs s1 cap1 W1 HZ hm1 hg1
                 have hf1:=bJ (HV.out.still hg1)
                 have hc0:=one_cell (HV.out.still hg1)
                 have HU1:=vQ (lC HB.out hg HV.out HL.out HH.out hm1 hg1)
                 have hcl:=one_cell HU1.out.last
                 have hca:=one_cell HU1.out.ahead
                 have hfl:=bJ HU1.out.last
                 have hfa:=bJ HU1.out.ahead
                 clear hm1 hg1 HV HA0)
    go_end0
    rw[<-HZ.out]
    exact⟨rfl,na HU1.out _⟩
theorem ik(w:World)(o:Obj){k:Nat}(h:k<w.1.size):(w.alloc o).1[k]?=w.1[k]?:=by
 show(w.1.push o)[k]?=_
 rw[Array.getElem?_push,if_neg (by omega)]
theorem jn{w:World}{g o:Nat}{xs zs:L8}(h:ev w g o (xs++zs)):ev w g o xs :=
 ⟨h.1,fun j hj=>by
  have:=h.2.1 j (by rw[List.length_append];omega)
  rwa [List.getElem_append_left hj] at this,fun j hj=>h.2.2 j (by rw[List.length_append];omega)⟩
def fP(w:World)(l:L8)(e:Ending)(w':World):Prop :=
 ∃q cap,e=.returned (.tuple #[.slice q (Cob.un l).2.length cap,.int .i64 ((Cob.un l).1:Nat)])∧At w' q (Cob.un l).2∧(Cob.un l).2.length<=cap∧((Cob.un l).2≠[]->∃g o,q=some ⟨g,o,none⟩∧w.1.size<=g∧ev w' g o (Cob.un l).2)∧Below w.1.size w w'
theorem dD{w w':World}{l:L8}{c:Nat}(h:Cob.un l=(c,[]))(hb:Below w.1.size w w'):fP w l (.returned (.tuple #[.slice none 0 0,.int .i64 c])) w':=by
 unfold fP
 rw[h]
 exact⟨none,0,rfl,.inl rfl,vX,fun hc=>absurd rfl hc,hb⟩
theorem cS{w w':World}{l xs:L8}{s cap:Nat}(h:Cob.un l=(0,xs))(hf:ev w' s 0 xs)(hs:w.1.size<=s)(hc:xs.length<=cap)(hb:Below w.1.size w w'):fP w l (.returned (.tuple #[.slice (some ⟨s,0,none⟩) xs.length cap,.int .i64 0])) w':=by
 unfold fP
 rw[h]
 exact⟨_,cap,rfl,hf.at,hc,fun _=>⟨s,0,rfl,hs,hf⟩,hb⟩
theorem kK{l:L8}(h:fR l l.length):Cob.Nz l:=by
 intro c hc
 obtain⟨j,hj,rfl⟩:=List.getElem_of_mem hc
 exact h.2.1 j hj hj
theorem px(p:OA)(c:Nat)(l:L8)(w:World)(hl:l.length<=140737488351232)(hlc:l.length<=c)(h:At w p l):
    Calls Tryz.prog 114 #[.slice p l.length c] w fun e w'=>fP w l e w':=by
  obtain⟨i0,hi,hz0,hz1,hz2⟩:=info_parts fZ
  have HA:=vQ h
  have HF:=vQ (fk p c l hl w h)
  clear h
  go_enter Tryz.func114,Tryz.ntmps114
  go_wp2_with fail
  refine HF.out.mono ?_
  rintro e w1 ⟨k,rfl,hFz,rfl⟩
  have hkl:=hFz.1
  have HFz:=vQ hFz
  clear hFz HF
  by_cases hk:k<l.length
  · have hk':(k:Int)<(l.length:Int):=by omega
    have h0:Cob.un l=(40,[]):=Cob.un_zero (by rw[<-HFz.out.2.2 hk];exact List.getElem_mem hk)
    have H0:=vQ h0
    clear h0
    go_wp2
    go_ret2
    exact dD H0.out vZ
  · have hkk:k=l.length:=by omega
    subst hkk
    have HZ:=vQ (kK HFz.out)
    clear HFz hk
    go_wp2_with (first
      | (at_make;refine wpList_make_own _ rfl _ _ 31 rfl w1.1.size 5 i0 (.int .u8 0) 1 Tryz.underlying31 hi hz0 hz1 .i64 .i64 l.length l.length rfl rfl rfl (by rw[hz2];omega) (by unfold maxLen;omega) vX ?_;intro w2 hown hgrow
         have HM2:Hid (bh w2 w1.1.size w1.1.size l.length []):=hown
         have HG2:=vQ hgrow
         clear hown hgrow)
      |fail)
    have hs2:w1.1.size<=w2.1.size:=HG2.out.size
    have hB2:Below w1.1.size w1 w2:=vZ.grown HG2.out vX (fun k hk=>by cases hk)
    have HR:Hid (Calls Tryz.prog 140 #[.slice p l.length c,.func (.func 141) #[] #[.pointer (some ⟨w2.1.size,0,none⟩),.pointer (some ⟨w2.1.size+2,0,none⟩),.pointer (some ⟨w2.1.size+1,0,none⟩)]]
        (((w2.alloc (.cells #[.slice (some ⟨w1.1.size,0,none⟩) 0 l.length] 31)).alloc (.cells #[.int .i64 0] 3)).alloc (.cells #[.int .i64 0] 3))
        fun e w'=>∃ys la ah,UnI w1 w2.1.size ys la ah w'∧((e=.returned (.int .i64 30)∧Cob.un l=(30,[]))∨(e=.returned (.int .i64 0)∧l≠[]∧Cob.Rd l l.length ys la ah))):=by
      have hst:UnI w1 w2.1.size [] 0 0 (((w2.alloc (.cells #[.slice (some ⟨w1.1.size,0,none⟩) 0 l.length] 31)).alloc (.cells #[.int .i64 0] 3)).alloc (.cells #[.int .i64 0] 3)):=by
        refine⟨((hB2.alloc (by omega) _).alloc (by simp;omega) _).alloc (by simp;omega) _,hs2,⟨w1.1.size,l.length,?_,?_⟩,?_,?_⟩
        · rw[ik _ _ (by simp;omega),ik _ _ (by simp)]
          exact bK w2 _
        · exact World.ownsRow.alloc (World.ownsRow.alloc (World.ownsRow.alloc HM2.out _) _) _
        · have:=bK ((w2.alloc (.cells #[.slice (some ⟨w1.1.size,0,none⟩) 0 l.length] 31)).alloc (.cells #[.int .i64 0] 3)) (.cells #[.int .i64 0] 3)
          simpa using this
        · rw[ik _ _ (by simp)]
          have:=bK (w2.alloc (.cells #[.slice (some ⟨w1.1.size,0,none⟩) 0 l.length] 31)) (.cells #[.int .i64 0] 3)
          simpa using this
      show Calls _ _ _ _ _
      by_cases hne:l=[]
      · subst hne
        refine(gu p c _ _).mono ?_
        rintro e w' ⟨rfl,rfl⟩
        exact⟨[],0,0,hst,.inl ⟨rfl,Cob.un_none⟩⟩
      · obtain⟨b,o,rfl,-,-⟩:=bz HA.out (List.length_pos_iff.2 hne)
        refine(iL 141 ⟨w2.1.size,0,none⟩ ⟨w2.1.size+2,0,none⟩ ⟨w2.1.size+1,0,none⟩ (UnI w1 w2.1.size) b o c l _ hl hlc hne HZ.out (fun args w=>ef Tryz.func141 (by kernel_rfl) rfl args w)
          (fun ys la ah w' hu=>HA.out.on hu.below) hst (fun ys la ah q k t w' hu hq ht hb _=>rV w1 w2.1.size ys t la ah q k w' hu hq ht hb)).mono ?_
        rintro e w' ⟨ys,la,ah,hu,h1 | h1⟩
        · exact⟨ys,la,ah,hu,.inl h1⟩
        · exact⟨ys,la,ah,hu,.inr ⟨h1.1,hne,h1.2⟩⟩
    refine HR.out.mono ?_
    rintro e w3 ⟨ys,la,ah,hu,hcase⟩
    have HU:=vQ hu
    clear HR hB2
    rcases hcase with ⟨rfl,h30⟩ | ⟨rfl,hne,hrd⟩
    · have H30:=vQ h30
      clear h30 hu
      go_wp2
      go_ret2
      exact dD H30.out HU.out.below
    · obtain⟨s,cap,hv⟩:=hu.var
      have HV:=vQ hv
      have hcv:=one_cell hv.box
      have hfv:=bJ hv.box
      have hcl:=one_cell hu.last
      have hca:=one_cell hu.ahead
      obtain⟨xs,hys,hun⟩:=Cob.rd_end HZ.out hne hrd
      have hyb:=(Cob.rd_le hrd).1
      clear hv hu hrd hne
      by_cases hah:ah=254
      · have hb1:((ah:Int)==254)=true:=by rw[beq_iff_eq];omega
        by_cases hl0:la=0
        · have hb2:((la:Int)==0)=true:=by rw[beq_iff_eq];omega
          rw[if_pos ⟨hah,hl0⟩] at hun
          have HUN:=vQ hun
          clear hun hys
          go_wp2
          go_ret2
          exact dD HUN.out HU.out.below
        · have hb2:((la:Int)==0)=false:=by rw[beq_eq_false_iff_ne];omega
          rw[if_neg (fun hc=>hl0 hc.2)] at hun
          have HUN:=vQ hun
          clear hun
          by_cases hla:la<254
          · have hla':(la:Int)<254:=by omega
            rw[if_pos hla] at hys
            have hyl:ys.length=xs.length+1:=by rw[hys];simp
            have hcl:xs.length<=cap:=by have:=HV.out.mine.base.2.2;omega
            have HYS:=vQ hys
            have HYL:=vQ hyl
            have hyp:1<=ys.length:=by omega
            have hxb:xs.length<=140737488351233:=by omega
            have hym:(ys.length:Int)-1=(xs.length:Int):=by omega
            clear hys hyl
            go_wp2
            go_ret2
            refine cS HUN.out (jn (zs:=[0]) ?_) HV.out.mine.base.1 hcl (HU.out.below.setCell (p:=⟨w2.1.size,0,none⟩) (by show w1.1.size<=w2.1.size;exact hs2) _)
            have hm:=cY HV.out.mine (bo w3 w2.1.size (.slice (some ⟨s,0,none⟩) xs.length cap)) HV.out.ne
            rw[<-HYS.out]
            exact hm.free
          · have hla':¬(la:Int)<254:=by omega
            rw[if_neg hla,List.append_nil] at hys
            subst hys
            go_wp2
            go_ret2
            exact cS HUN.out HV.out.mine.free HV.out.mine.base.1 HV.out.mine.base.2.2 HU.out.below
      · have hb1:((ah:Int)==254)=false:=by rw[beq_eq_false_iff_ne];omega
        rw[if_neg (fun hc=>hah hc.1)] at hun
        have HUN:=vQ hun
        clear hun
        by_cases hla:la<254
        · have hla':(la:Int)<254:=by omega
          rw[if_pos hla] at hys
          have hyl:ys.length=xs.length+1:=by rw[hys];simp
          have hcl:xs.length<=cap:=by have:=HV.out.mine.base.2.2;omega
          have HYS:=vQ hys
          have HYL:=vQ hyl
          have hyp:1<=ys.length:=by omega
          have hxb:xs.length<=140737488351233:=by omega
          have hym:(ys.length:Int)-1=(xs.length:Int):=by omega
          clear hys hyl
          go_wp2
          go_ret2
          refine cS HUN.out (jn (zs:=[0]) ?_) HV.out.mine.base.1 hcl (HU.out.below.setCell (p:=⟨w2.1.size,0,none⟩) (by show w1.1.size<=w2.1.size;exact hs2) _)
          have hm:=cY HV.out.mine (bo w3 w2.1.size (.slice (some ⟨s,0,none⟩) xs.length cap)) HV.out.ne
          rw[<-HYS.out]
          exact hm.free
        · have hla':¬(la:Int)<254:=by omega
          rw[if_neg hla,List.append_nil] at hys
          subst hys
          go_wp2
          go_ret2
          exact cS HUN.out HV.out.mine.free HV.out.mine.base.1 HV.out.mine.base.2.2 HU.out.below
end
section
open Go.RowKit
theorem mZ(a b:Nat)(ha:a<4294967296)(hb:b<4294967296):bits .xor .u32 (a:Int) (b:Int)=((a ^^^ b:Nat):Int):=u32_xor_nat a b ha hb
theorem fX(a:Nat)(ha:a<4294967296):bits .xor .u32 IntKind.u32.max (a:Int)=((a ^^^ Crc.full:Nat):Int):=by
 rw[Nat.xor_comm];exact u32_xor_nat 4294967295 a (by omega) ha
theorem gV(s:Nat)(hs:s<4294967296)(b o c:Nat)(l:L8)(hl:l.length<=150000000000000)(w:World)(hc:cg w b o l):
  Calls Tryz.prog 148 #[.int .u32 s,.slice (some ⟨b,o,none⟩) l.length c] w fun e w'=>e=.returned (.int .u32 (Crc.update s l:Nat))∧w'=w:=by
 have hn:=fX s hs
 have HC:=vQ hc
 clear hc
 obtain⟨r0,hr0⟩:∃r0,r0=s ^^^ Crc.full:=⟨_,rfl⟩
 rw[<-hr0] at hn
 have hr0lt:r0<4294967296:=by rw[hr0];exact Nat.xor_lt_two_pow (n:=32) hs (by decide)
 have HU:Hid (Crc.update s l=Crc.take r0 l ^^^ Crc.full):=by rw[hr0];exact rfl
 clear hr0
 go_enter Tryz.func148,Tryz.ntmps148
 go_wp2
 go_loop [5,6] (fun vr vi=>∃(k r:Nat),k<=l.length∧vi=.int .i64 k∧vr=.int .u32 r∧r<4294967296∧Hid (r=Crc.take r0 (l.take k))) (fun _ vi=>l.length-(intOf vi).toNat)
 case atStart=>exact⟨0,r0,by omega,rfl,rfl,hr0lt,rfl⟩
 case round=>
  obtain⟨k,r,hk,rfl,rfl,hr,HR⟩:=hrel
  by_cases hlt:k<l.length
  ·have hcell:=HC.out k hlt
   have hc256:l[k].toNat<256:=l[k].toNat_lt
   have hx:=mZ r l[k].toNat hr (by omega)
   obtain⟨q0,hq0⟩:∃q0,q0=r ^^^ l[k].toNat:=⟨_,rfl⟩
   rw[<-hq0] at hx
   have hq0lt:q0<4294967296:=by rw[hq0];exact Nat.xor_lt_two_pow (n:=32) hr (by omega)
   have HN:Hid (Crc.steps 8 q0=Crc.take r0 (l.take (k+1))):=by
    show Crc.steps 8 q0=_
    rw[List.take_succ_eq_append_getElem hlt,Crc.take_snoc,<-HR.out,hq0];rfl
   clear hq0 HR
   go_wp2
   go_loop [5,7] (fun vr vj=>∃(j q:Nat),j<=8∧vj=.int .i64 j∧vr=.int .u32 q∧q<4294967296∧Hid (q=Crc.steps j q0)) (fun _ vj=>8-(intOf vj).toNat)
   case atStart=>exact⟨0,q0,by omega,rfl,rfl,hq0lt,rfl⟩
   case round=>
    obtain⟨j,q,hj,rfl,rfl,hq,HQ⟩:=hrel
    by_cases hj8:j<8
    ·by_cases hodd:q % 2=1
     ·have hb:((q:Int) % 2==1)=true:=by rw[beq_iff_eq];omega
      have hx2:bits .xor .u32 ((q:Int) / 2) 3988292384=((q / 2 ^^^ Crc.poly:Nat):Int):=by
       have:=mZ (q / 2) 3988292384 (by omega) (by omega)
       simpa[Crc.poly] using this
      have HS:Hid (q / 2 ^^^ Crc.poly=Crc.steps (j+1) q0∧q / 2 ^^^ Crc.poly<4294967296):=by
       refine⟨?_,Nat.xor_lt_two_pow (n:=32) (by omega) Crc.poly_lt⟩
       rw[Crc.steps_succ,<-HQ.out,Crc.step,if_pos hodd]
      generalize q / 2 ^^^ Crc.poly=q1 at hx2 HS
      clear hodd
      go_wp2
      go_round
      case rel=>exact⟨j+1,q1,by omega,by go_num,rfl,HS.out.2,HS.out.1⟩
      case measure=>simp[intOf];omega
     ·have hb:((q:Int) % 2==1)=false:=by rw[beq_eq_false_iff_ne];omega
      have HS:Hid (q / 2=Crc.steps (j+1) q0):=by
       show q / 2=_
       rw[Crc.steps_succ,<-HQ.out,Crc.step,if_neg hodd]
      clear hodd
      go_wp2
      go_round
      case rel=>exact⟨j+1,q / 2,by omega,by go_num,by go_num,by omega,HS⟩
      case measure=>simp[intOf];omega
    ·have hj9:j=8:=by omega
     subst hj9
     have HE:Hid (q=Crc.take r0 (l.take (k+1))):=by
      show q=_
      rw[HQ.out,HN.out]
     clear hj8 hj
     go_wp2
     go_round
     case rel=>exact⟨k+1,q,by omega,by go_num,rfl,hq,HE⟩
     case measure=>simp[intOf];omega
  ·have hkk:k=l.length:=by omega
   subst hkk
   have hn2:=fX r hr
   have HE:Hid ((r ^^^ Crc.full:Nat)=Crc.update s l):=by
    show _=_
    rw[HU.out,HR.out,List.take_length]
   generalize r ^^^ Crc.full=z at hn2 HE
   go_wp2
   go_ret
   exact⟨by rw[<-HE.out];rfl,rfl⟩
theorem gW(s:Nat)(hs:s<4294967296)(p:OA)(c:Nat)(w:World):
  Calls Tryz.prog 148 #[.int .u32 s,.slice p 0 c] w fun e w'=>e=.returned (.int .u32 (s:Nat))∧w'=w:=by
 have hn:=fX s hs
 obtain⟨r0,hr0⟩:∃r0,r0=s ^^^ Crc.full:=⟨_,rfl⟩
 rw[<-hr0] at hn
 have hr0lt:r0<4294967296:=by rw[hr0];exact Nat.xor_lt_two_pow (n:=32) hs (by decide)
 have hn2:=fX r0 hr0lt
 have e:r0 ^^^ Crc.full=s:=by rw[hr0];exact Crc.flip_flip s
 rw[e] at hn2
 clear e hr0
 go_enter Tryz.func148,Tryz.ntmps148
 go_wp2
 go_loop [5,6] (fun vr vi=>vi=.int .i64 0∧vr=.int .u32 r0) (fun _ _=>0)
 case atStart=>exact⟨rfl,rfl⟩
 case round=>
  obtain⟨rfl,rfl⟩:=hrel
  go_wp2
  go_ret
  exact⟨rfl,rfl⟩
theorem iI(s:Nat)(hs:s<4294967296)(p:OA)(c:Nat)(l:L8)(hl:l.length<=150000000000000)(w:World)(h:At w p l):
  Calls Tryz.prog 148 #[.int .u32 s,.slice p l.length c] w fun e w'=>e=.returned (.int .u32 (Crc.update s l:Nat))∧w'=w:=by
 rcases h with rfl | ⟨b,o,rfl,_,hc⟩
 ·rw[Crc.update_nil]
  exact gW s hs p c w
 ·exact gV s hs b o c l hl w hc
theorem lY(p:OA)(c:Nat)(l:L8)(hl:l.length<=150000000000000)(w:World)(h:At w p l):
  Calls Tryz.prog 122 #[.slice p l.length c] w fun e w'=>e=.returned (.int .u32 (Crc.sum l:Nat))∧w'=w:=by
 have HU:=vQ (iI 0 (by omega) p c l hl w h)
 have HS:Hid (Crc.update 0 l=Crc.sum l):=rfl
 clear h
 go_enter Tryz.func122,Tryz.ntmps122
 go_wp2_with fail
 refine HU.out.mono ?_
 rintro e w' ⟨rfl,rfl⟩
 go_wp2
 go_ret
 exact⟨by rw[<-HS.out];rfl,rfl⟩
end
section
open Go.RowKit
def Hv(w:World):Prop:=∀n (_:n<16),w.cell? ⟨2,n,none⟩=some (.int .u32 (Crc.steps 4 n:Nat))
theorem uT(r:Nat)(hr:r<4294967296):bits .and .u32 (r:Int) 15=((r % 16:Nat):Int):=by
 have:=u32_and_nat r 15 hr (by omega)
 rw[show(15:Nat)=2 ^ 4-1 from rfl,Nat.and_two_pow_sub_one_eq_mod] at this
 exact this
theorem eE(r:Nat)(hr:r<4294967296)(w:World)(ht:Hv w):
  Calls Tryz.prog 165 #[.int .u32 r] w fun e w'=>e=.returned (.int .u32 (Crc.steps 4 r:Nat))∧w'=w:=by
 have ha:=uT r hr
 have hc:=ht (r % 16) (Nat.mod_lt _ (by omega))
 have hm16:r % 16<16:=Nat.mod_lt _ (by omega)
 have hlt:Crc.steps 4 (r % 16)<4294967296:=Crc.steps_lt 4 (by omega)
 have hx:bits .xor .u32 ((r:Int) / 16) ((Crc.steps 4 (r % 16):Nat):Int)=((r / 16 ^^^ Crc.steps 4 (r % 16):Nat):Int):=mZ (r / 16) _ (by omega) hlt
 have HE:Hid (r / 16 ^^^ Crc.steps 4 (r % 16)=Crc.steps 4 r):=(Crc.nibble r).symm
 generalize Crc.steps 4 (r % 16)=v at hc hlt hx HE
 generalize r / 16 ^^^ v=z at hx HE
 clear ht
 go_enter Tryz.func165,Tryz.ntmps165
 go_wp2
 go_ret
 exact⟨by rw[<-HE.out];rfl,rfl⟩
theorem kj(s:Nat)(hs:s<4294967296)(b o c:Nat)(l:L8)(hl:l.length<=140737488351232)(w:World)(ht:Hv w)(hc:cg w b o l):
  Calls Tryz.prog 139 #[.int .u32 s,.slice (some ⟨b,o,none⟩) l.length c] w fun e w'=>e=.returned (.int .u32 (Crc.update s l:Nat))∧w'=w:=by
 have hn:=fX s hs
 have HC:=vQ hc
 have HT:=vQ ht
 clear hc ht
 obtain⟨r0,hr0⟩:∃r0,r0=s ^^^ Crc.full:=⟨_,rfl⟩
 rw[<-hr0] at hn
 have hr0lt:r0<4294967296:=by rw[hr0];exact Nat.xor_lt_two_pow (n:=32) hs (by decide)
 have HU:Hid (Crc.update s l=Crc.take r0 l ^^^ Crc.full):=by rw[hr0];exact rfl
 clear hr0
 go_enter Tryz.func139,Tryz.ntmps139
 go_wp2
 go_loop [5,12] (fun vr vi=>∃(k r:Nat),k<=l.length∧vi=.int .i64 k∧vr=.int .u32 r∧r<4294967296∧Hid (r=Crc.take r0 (l.take k))) (fun _ vi=>l.length-(intOf vi).toNat)
 case atStart=>exact⟨0,r0,by omega,rfl,rfl,hr0lt,rfl⟩
 case round=>
  obtain⟨k,r,hk,rfl,rfl,hr,HR⟩:=hrel
  by_cases hlt:k<l.length
  ·have hcell:=HC.out k hlt
   have hc256:l[k].toNat<256:=l[k].toNat_lt
   have hx:=mZ r l[k].toNat hr (by omega)
   obtain⟨q0,hq0⟩:∃q0,q0=r ^^^ l[k].toNat:=⟨_,rfl⟩
   rw[<-hq0] at hx
   have hq0lt:q0<4294967296:=by rw[hq0];exact Nat.xor_lt_two_pow (n:=32) hr (by omega)
   have HN:Hid (Crc.steps 4 (Crc.steps 4 q0)=Crc.take r0 (l.take (k+1))):=by
    show Crc.steps 4 (Crc.steps 4 q0)=_
    rw[<-Crc.byte_nibbles,List.take_succ_eq_append_getElem hlt,Crc.take_snoc,<-HR.out,hq0];rfl
   have hq1lt:Crc.steps 4 q0<4294967296:=Crc.steps_lt 4 hq0lt
   have hq2lt:Crc.steps 4 (Crc.steps 4 q0)<4294967296:=Crc.steps_lt 4 hq1lt
   have H1:=vQ (eE q0 hq0lt w HT.out)
   have H2:=vQ (eE _ hq1lt w HT.out)
   generalize Crc.steps 4 (Crc.steps 4 q0)=q2 at HN hq2lt H2
   generalize Crc.steps 4 q0=q1 at hq1lt H1 H2
   clear hq0 HR
   go_wp2_with fail
   refine H1.out.mono ?_
   rintro e w' ⟨rfl,rfl⟩
   go_wp2_with fail
   refine H2.out.mono ?_
   rintro e w' ⟨rfl,rfl⟩
   go_wp2
   go_round
   case rel=>exact⟨k+1,q2,by omega,by go_num,rfl,hq2lt,HN⟩
   case measure=>simp[intOf];omega
  ·have hkk:k=l.length:=by omega
   subst hkk
   have hn2:=fX r hr
   have HE:Hid ((r ^^^ Crc.full:Nat)=Crc.update s l):=by
    show _=_
    rw[HU.out,HR.out,List.take_length]
   generalize r ^^^ Crc.full=z at hn2 HE
   go_wp2
   go_ret
   exact⟨by rw[<-HE.out];rfl,rfl⟩
theorem kk(s:Nat)(hs:s<4294967296)(p:OA)(c:Nat)(w:World):
  Calls Tryz.prog 139 #[.int .u32 s,.slice p 0 c] w fun e w'=>e=.returned (.int .u32 (s:Nat))∧w'=w:=by
 have hn:=fX s hs
 obtain⟨r0,hr0⟩:∃r0,r0=s ^^^ Crc.full:=⟨_,rfl⟩
 rw[<-hr0] at hn
 have hr0lt:r0<4294967296:=by rw[hr0];exact Nat.xor_lt_two_pow (n:=32) hs (by decide)
 have hn2:=fX r0 hr0lt
 have e:r0 ^^^ Crc.full=s:=by rw[hr0];exact Crc.flip_flip s
 rw[e] at hn2
 clear e hr0
 go_enter Tryz.func139,Tryz.ntmps139
 go_wp2
 go_loop [5,12] (fun vr vi=>vi=.int .i64 0∧vr=.int .u32 r0) (fun _ _=>0)
 case atStart=>exact⟨rfl,rfl⟩
 case round=>
  obtain⟨rfl,rfl⟩:=hrel
  go_wp2
  go_ret
  exact⟨rfl,rfl⟩
theorem lB(s:Nat)(hs:s<4294967296)(p:OA)(c:Nat)(l:L8)(hl:l.length<=140737488351232)(w:World)(ht:Hv w)(h:At w p l):
  Calls Tryz.prog 139 #[.int .u32 s,.slice p l.length c] w fun e w'=>e=.returned (.int .u32 (Crc.update s l:Nat))∧w'=w:=by
 rcases h with rfl | ⟨b,o,rfl,_,hc⟩
 ·rw[Crc.update_nil]
  exact kk s hs p c w
 ·exact kj s hs b o c l hl w ht hc
theorem rX(p:OA)(c:Nat)(l:L8)(hl:l.length<=140737488351232)(w:World)(ht:Hv w)(h:At w p l):
  Calls Tryz.prog 110 #[.slice p l.length c] w fun e w'=>e=.returned (.int .u32 (Crc.sum l:Nat))∧w'=w:=by
 have HU:=vQ (lB 0 (by omega) p c l hl w ht h)
 have HS:Hid (Crc.update 0 l=Crc.sum l):=rfl
 clear h ht
 go_enter Tryz.func110,Tryz.ntmps110
 go_wp2_with fail
 refine HU.out.mono ?_
 rintro e w' ⟨rfl,rfl⟩
 go_wp2
 go_ret
 exact⟨by rw[<-HS.out];rfl,rfl⟩
end
end Go.Proofs.YtlgfdgdlaahpfaaGreatDoor
