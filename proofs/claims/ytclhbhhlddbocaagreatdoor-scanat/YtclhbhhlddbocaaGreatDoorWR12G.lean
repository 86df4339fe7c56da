import Derived.Test.YtclhbhhlddbocaaGreatDoorA7
import Derived.Test.YtclhbhhlddbocaaGreatDoorA11
import Derived.Test.YtclhbhhlddbocaaGreatDoorB05
set_option maxRecDepth 100000
set_option maxHeartbeats 4000000
namespace Go.Proofs.YtclhbhhlddbocaaGreatDoor
open Go.RowKit
def IOwn (w:World) (B:Nat) (v:Value) (l:List Int):Prop:=w.ownsRow B 2 1 v l.length (l.map fun n => Value.int .i64 n)
theorem iown_nil (w:World) (B:Nat):IOwn w B (.slice none 0 0) []:=⟨rfl,.inl ⟨rfl,rfl⟩⟩
section
variable {w w':World} {B:Nat} {v:Value} {l:List Int}
theorem IOwn.lt (h:IOwn w B v l):∀ k,v.ownBlock = some k → B ≤ k ∧ k < w.heap.size:=World.ownsRow.lt h
theorem IOwn.aside {F:Nat → Prop} (h:IOwn w B v l) (ha:Aside F w w') (hp:∀ k,v.ownBlock = some k → ¬ F k):IOwn w' B v l:=by
 refine ⟨h.1,?_⟩
 rcases h.2 with h1 | ⟨g,cap,cur,rfl,h2,h3,h4⟩
 ·exact .inl h1
 ·refine .inr ⟨g,cap,cur,rfl,h2,?_,h4⟩
  rw [ha.block g (Array.getElem?_eq_some_iff.1 h3).1 (hp g rfl)]
  exact h3
theorem IOwn.on (h:IOwn w B v l) (hb:Below w.heap.size w w'):IOwn w' B v l:=h.aside (aside_new hb (fun _ => False)) (fun _ _ hc => hc)
theorem IOwn.ints (h:IOwn w B v l):∃ p c,v = .slice p l.length c ∧ l.length ≤ c ∧ (l = [] ∨ ∃ g,p = some ⟨g,0,none⟩ ∧ B ≤ g ∧ Ints w g l):=by
 rcases h.2 with ⟨rfl,h0⟩ | ⟨g,cap,cur,rfl,h1,h2,h3,h4,h5,h6⟩
 ·have h0':=List.eq_nil_of_length_eq_zero h0
  subst h0'
  exact ⟨none,0,rfl,Nat.le_refl _,.inl rfl⟩
 ·refine ⟨_,cap,rfl,h3,.inr ⟨g,rfl,h1,(Array.getElem?_eq_some_iff.1 h2).1,fun j hj => ?_⟩⟩
  have h7:(l.map fun n => Value.int .i64 n)[j]? = some (.int .i64 l[j]):=by simp [hj]
  rw [← h7,← h6,List.getElem?_take_of_lt (by omega)]
  simp [World.cell?,h2]
end
theorem infoI:(Tryz.prog.info? 2).map (fun i => (i.zero,i.size,i.bytes)) = some (some (.int .i64 0),1,8):=by kernel_rfl
theorem wp_moreI {B:Nat} {v:Value} {l:List Int} {w:World} {n:Int} {ad H:Nat} (hown:IOwn w B v l) (hblk:w.heap[ad]? = some (.cells #[.int .i64 n] 2 (0,0))) (hn:(l.length + 1) * 8 ≤ 140737488355328) (hB:B ≤ w.heap.size) (hH:w.heap.size = H)
  {ops:Array Oper} {rest:List Oper} {o:Oper} {a:Act} {Q:Exit → Act → World → Prop} {y x:Operand}
  (hg:o.guard = none) (hop:o.op = Op.call { callee:=Callee.builtin Builtin.append,args:=#[y,x],argTypes:=#[122,122] })
  (hs:a.eval y = v) (hx:a.eval x = .slice (some ⟨ad,0,none⟩) 1 1)
  (hK:∀ g cap w',IOwn w' B (.slice (some ⟨g,0,none⟩) (l.length + 1) cap) (l ++ [n]) → w.grownBy w' v.ownBlock → (v.ownBlock = some g ∨ g = H) → wpList Tryz.prog ops Q rest (a.put o.dst (.slice (some ⟨g,0,none⟩) (l.length + 1) cap)) w') :
  wpList Tryz.prog ops Q (o :: rest) a w:=by
 obtain ⟨i,hi,hz,hsz,hby⟩:=info_parts infoI
 refine wpList_append_lies w hg y x 122 hop B 2 i (.int .i64 0) 1 8 Tryz.underlying122 hi hz hsz hby rfl (by decide) v l.length (l.map fun n => Value.int .i64 n) hs hown ⟨ad,0,none⟩ 1 1 _ hx (by simp)
  (World.news_of_block hblk) (by simp [Value.oneCell']) (by decide) (by unfold maxLen;omega) hn hB H hH fun g cap w' h2 h3 h4 _ => hK g cap w' ?_ h3 h4
 unfold IOwn
 rw [List.length_append,List.map_append]
 simpa using h2
theorem moreI_below {w wr w2:World} {v:Value} {l:List Int} {o:Obj} (hb:Below w.heap.size w wr) (hO:IOwn wr w.heap.size v l) (hg:(wr.alloc o).grownBy w2 v.ownBlock):Below w.heap.size w w2:=by
 refine hb.trans (Below.trans (((Below.refl _ wr).alloc (Nat.le_refl _) o).mono hb.size) ?_)
 refine ⟨hg.os,hg.tape,hg.output,hg.size,fun b hlt => hg.block b (by have:=hb.size;simp;omega) (fun hc => ?_)⟩
 have:=(hO.lt b (by first | exact hc | exact hc.symm)).1
 omega
theorem gotV_badF (l:List UInt8) (a:Nat) (h:(Leb.get (l.drop a)).err ≠ 0):gotV l a = .tuple #[.int .u64 0,.int .i64 0,.int .i64 ((Leb.get (l.drop a)).err:Nat)]:=by
 have hb:=Leb.getF_bad 10 true (l.drop a) h
 refine gotV_bad l a _ h ?_
 obtain ⟨h1,h2⟩:=hb
 have e1:(Leb.get (l.drop a)).n = 0:=h1
 have e2:(Leb.get (l.drop a)).k = 0:=h2
 generalize Leb.get (l.drop a) = g at e1 e2
 cases g
 simp_all
theorem gotV_okF (l:List UInt8) (a:Nat) (h:(Leb.get (l.drop a)).err = 0):gotV l a = .tuple #[.int .u64 ((Leb.get (l.drop a)).n:Nat),.int .i64 ((a + (Leb.get (l.drop a)).k:Nat):Int),.int .i64 0]:=by
 have:=gotV_ok l a (Leb.get (l.drop a)).n (Leb.get (l.drop a)).k (by
  generalize Leb.get (l.drop a) = g at h
  cases g
  simp_all)
 rw [this,Int.natCast_add]
def shN (ns:List Nat) (k:Nat) (r:Except Nat (List Nat × Nat)):Except Nat (List Nat × Nat):=match r with
 | .error e => .error e
 | .ok (ms,j) => .ok (ns ++ ms,k + j)
theorem shN_nil (r:Except Nat (List Nat × Nat)):shN [] 0 r = r:=by
 cases r with
 | error e => rfl
 | ok x => obtain ⟨ms,j⟩:=x;simp [shN]
theorem nbs_bad {lim:Nat} {r:List Nat} {l:List UInt8} {e:Nat} (ns:List Nat) (k:Nat) (h:Fr.nb lim l = .error e):shN ns k (Fr.nbs (lim :: r) l) = .error e:=by rw [Fr.nbs,h];rfl
theorem nbs_next {lim:Nat} {r:List Nat} {l:List UInt8} {n k1:Nat} (ns:List Nat) (k:Nat) (h:Fr.nb lim l = .ok (n,k1)):shN ns k (Fr.nbs (lim :: r) l) = shN (ns ++ [n]) (k + k1) (Fr.nbs r (l.drop k1)):=by
 rw [Fr.nbs,h]
 dsimp only
 cases Fr.nbs r (l.drop k1) with
 | error e => rfl
 | ok x => obtain ⟨ms,j⟩:=x;simp [shN,Nat.add_assoc]
def toI (l:List Nat):List Int:=l.map Int.ofNat
theorem toI_len (l:List Nat):(toI l).length = l.length:=by simp [toI]
theorem toI_get (l:List Nat) (j:Nat) (h:j < l.length):(toI l)[j]'(by rw [toI_len];exact h) = (l[j]:Int):=by simp [toI]
theorem toI_more (l:List Nat) (n:Nat):toI (l ++ [n]) = toI l ++ [(n:Int)]:=by simp [toI]
def SomeV (w:World) (a:Nat) (r:Except Nat (List Nat × Nat)) (e:Ending) (w':World):Prop :=
 (∃ er,r = .error er ∧ e = .returned (.tuple #[.slice none 0 0,.int .i64 0,.bool false]) ∧ Below w.heap.size w w') ∨
 (∃ ns k q cap,r = .ok (ns,k) ∧ e = .returned (.tuple #[.slice q ns.length cap,.int .i64 ((a + k:Nat):Int),.bool true]) ∧ IOwn w' w.heap.size (.slice q ns.length cap) (toI ns) ∧ Below w.heap.size w w')
theorem refSome (p:Option Addr) (c:Nat) (l:List UInt8) (hl:l.length ≤ 140737488351232) (a bb:Nat) (hal:a ≤ l.length) (lims:List Nat) (hn:lims.length ≤ 10) (hlim:∀ x ∈ lims,x ≤ 1099511627776) (w:World) (h:At w p l) (hI:Ints w bb (toI lims)) :
    Calls Tryz.prog 115 #[.slice p l.length c,.int .i64 a,.slice (some ⟨bb,0,none⟩) lims.length lims.length] w (SomeV w a (Fr.nbs lims (l.drop a))):=by
  have HA:=Lib.hid h
  have HI:=Lib.hid hI
  have HLm:=Lib.hid hlim
  obtain ⟨R,hR⟩:∃ R,R = Fr.nbs lims (l.drop a):=⟨_,rfl⟩
  rw [← hR]
  have HR:=Lib.hid hR
  clear h hI hlim hR
  go_enter Tryz.func115,Tryz.ntmps115
  go_wp2
  go_loopw [1,9,10] (fun v1 v9 v10 wr => ∃ (i k m:Nat) (ns:List Nat),i ≤ lims.length ∧ v10 = .int .i64 i ∧ v1 = .int .i64 ((m:Nat):Int) ∧ m ≤ l.length ∧ ns.length = i ∧ Hid (m = a + k ∧ R = shN ns k (Fr.nbs (lims.drop i) (l.drop (a + k))) ∧ IOwn wr w.heap.size v9 (toI ns) ∧ Below w.heap.size w wr)) (fun _ _ v10 _ => lims.length - (intOf v10).toNat)
  case atStart => exact ⟨0,0,a,[],by omega,rfl,rfl,hal,rfl,rfl,by rw [shN_nil,HR.out];rfl,iown_nil _ _,Below.refl _ _⟩
  case round =>
    obtain ⟨i,k,m,ns,hi,rfl,rfl,hm,hns,HK⟩:=hrel
    have hB:=HK.out.2.2.2.size
    have HNS:=Lib.hid hns
    by_cases hlt:i < lims.length
    · have hlt':(i:Int) < (lims.length:Int):=by omega
      have hc:wr.cell? ⟨bb,i,none⟩ = some (.int .i64 (lims[i]:Nat)):=by
        rw [HK.out.2.2.2.cell (p:=⟨bb,i,none⟩) HI.out.1,HI.out.2 i (by rw [toI_len];exact hlt),toI_get lims i hlt]
      have hlm:=HLm.out lims[i] (List.getElem_mem hlt)
      have hG:=refGet_any p c l (m:Int) hl wr (HA.out.on HK.out.2.2.2)
      have HDr:Hid (lims.drop i = lims[i] :: lims.drop (i + 1)):=List.drop_eq_getElem_cons hlt
      have HRr:Hid (R = shN ns k (Fr.nbs (lims[i] :: lims.drop (i + 1)) (l.drop m))):=by
        show _ = _
        rw [HK.out.2.1,HDr.out,HK.out.1]
      have HNb:Hid (Fr.nb lims[i] (l.drop m) = match Sch.num (l.drop m) with | .error _ => .error 5 | .ok (n,k) => if n < lims[i] then .ok (n,k) else .error 5):=rfl
      generalize lims[i] = lim at hc hlm HRr HNb
      have hlmi:(lim:Int) ≤ 1099511627776:=by omega
      by_cases he:(Leb.get (l.drop m)).err = 0
      · rw [gotV_okF l m he] at hG
        have hgo:=Leb.get_ok (l.drop m) he
        have HNm:Hid (Sch.num (l.drop m) = .ok ((Leb.get (l.drop m)).n,(Leb.get (l.drop m)).k)):=if_pos he
        obtain ⟨g1,-,g3,-⟩:=hgo
        rw [List.length_drop] at g3
        obtain ⟨n,hnn⟩:∃ n,n = (Leb.get (l.drop m)).n:=⟨_,rfl⟩
        obtain ⟨k1,hk1⟩:∃ k1,k1 = (Leb.get (l.drop m)).k:=⟨_,rfl⟩
        rw [← hnn,← hk1] at hG HNm
        rw [← hnn] at g1
        rw [← hk1] at g3
        rw [HNm.out] at HNb
        have HG:=Lib.hid hG
        clear he hnn hk1 hG HNm
        obtain ⟨m2,hm2⟩:∃ m2,m2 = m + k1:=⟨_,rfl⟩
        rw [← hm2] at HG
        have hm2l:m2 ≤ l.length:=by omega
        have HM2:=Lib.hid hm2
        clear hm2
        by_cases hnl:n < lim
        · have HNb2:Hid (Fr.nb lim (l.drop m) = .ok (n,k1)):=HNb.out.trans (if_pos hnl)
          have HR2:Hid (R = shN (ns ++ [n]) (k + k1) (Fr.nbs (lims.drop (i + 1)) (l.drop (a + (k + k1))))):=by
            show _ = _
            rw [HRr.out,nbs_next ns k HNb2.out,List.drop_drop,HK.out.1,Nat.add_assoc]
          have hnl':(n:Int) < (lim:Int):=by omega
          have hnge:¬ (lim:Int) ≤ (n:Int):=by omega
          have HO:=Lib.hid HK.out.2.2.1
          have HBr:=Lib.hid HK.out.2.2.2
          have HMk:=Lib.hid HK.out.1
          clear HNb HNb2 HRr HDr hnl HK hns
          go_wp2_with fail
          refine HG.out.mono ?_
          rintro e w1 ⟨rfl,hw1⟩
          rw [hw1]
          clear hw1 w1 HG
          go_wp2_with (first
            | (at_builtin
               refine wp_moreI (HO.out.on ((Below.refl _ wr).alloc (Nat.le_refl _) _)) (blk_new wr _) (by rw [toI_len,HNS.out];omega) (by simp;omega) rfl rfl rfl rfl rfl ?_
               intro g cap w2 hn2 hg2 hor2
               have HN2:=Lib.hid hn2
               have HB2:=Lib.hid (moreI_below HBr.out HO.out hg2)
               clear hn2 hg2 hor2)
            | fail)
          go_roundw
          case rel =>
            refine ⟨i + 1,k + k1,m2,ns ++ [n],by omega,by go_num,rfl,hm2l,by rw [List.length_append,HNS.out];rfl,by rw [HM2.out,HMk.out,Nat.add_assoc],HR2.out,?_,HB2.out⟩
            rw [toI_more]
            exact HN2.out
          case measure => simp [intOf];omega
        · have HNb2:Hid (Fr.nb lim (l.drop m) = .error 5):=HNb.out.trans (if_neg hnl)
          have HR2:Hid (R = .error 5):=by
            show _ = _
            rw [HRr.out,nbs_bad ns k HNb2.out]
          have hnge:(lim:Int) ≤ (n:Int):=by omega
          have HBr:=Lib.hid HK.out.2.2.2
          clear HNb HNb2 HRr HDr hnl HK hns
          go_wp2_with fail
          refine HG.out.mono ?_
          rintro e w1 ⟨rfl,hw1⟩
          rw [hw1]
          clear hw1 w1 HG
          go_wp2
          go_ret3
          exact .inl ⟨_,HR2.out,rfl,HBr.out⟩
      · rw [gotV_badF l m he] at hG
        have HNm:Hid (Sch.num (l.drop m) = .error (Leb.get (l.drop m)).err):=if_neg he
        rw [HNm.out] at HNb
        have HR2:Hid (R = .error 5):=by
          show _ = _
          rw [HRr.out,nbs_bad ns k HNb.out]
        obtain ⟨er,her⟩:∃ er,er = (Leb.get (l.drop m)).err:=⟨_,rfl⟩
        rw [← her] at hG he
        have HG:=Lib.hid hG
        have g0:((er:Int) != 0) = true:=bne_t (by omega)
        have HBr:=Lib.hid HK.out.2.2.2
        clear HNb HNm HRr HDr HK hns hG her he
        go_wp2_with fail
        refine HG.out.mono ?_
        rintro e w1 ⟨rfl,hw1⟩
        rw [hw1]
        clear hw1 w1 HG
        go_wp2
        go_ret3
        exact .inl ⟨_,HR2.out,rfl,HBr.out⟩
    · have hii:i = lims.length:=by omega
      subst hii
      have HR2:Hid (R = .ok (ns,k)):=by
        show _ = _
        rw [HK.out.2.1,List.drop_length,Fr.nbs]
        simp [shN]
      have HO:=Lib.hid HK.out.2.2.1
      have HBr:=Lib.hid HK.out.2.2.2
      have HMk:=Lib.hid HK.out.1
      obtain ⟨q,cap,rfl,-,-⟩:=HO.out.ints
      rw [toI_len] at HO ⊢
      clear HK hns
      go_wp2
      go_ret3
      rw [HMk.out]
      exact .inr ⟨ns,k,q,cap,HR2.out,rfl,HO.out,HBr.out⟩
end Go.Proofs.YtclhbhhlddbocaaGreatDoor
