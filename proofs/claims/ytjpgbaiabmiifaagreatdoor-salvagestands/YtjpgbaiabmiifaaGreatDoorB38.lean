import Derived.Test.YtjpgbaiabmiifaaGreatDoorB37
import Derived.Test.YtjpgbaiabmiifaaGreatDoorB29
import Derived.Test.YtjpgbaiabmiifaaGreatDoorB32
set_option maxRecDepth 100000
set_option maxHeartbeats 4000000
namespace Go.Proofs.YtjpgbaiabmiifaaGreatDoor
section
open Go.RowKit Go.Shelf
attribute [local go_sem] af Oper.semAt_some
theorem tE:(Tryz.prog.info? 46).map (fun i => (i.zero,i.size,i.bytes)) = some (some (.agg #[.slice none 0 0]),1,24):=by kernel_rfl
def mG (w:World) (F:Nat → Prop) (q:Option Addr) (d:Nat) (vs:List V):Prop:=aN w F (cells5 0 0 0 ⟨#[]⟩ q vs.length d) (.mk 0 0 0 ⟨#[]⟩ vs)
structure bD (w:World) (B:Nat) (v:Value) (ys:List (List V)):Prop where
 out:∃ us:List Value,w.ownsRow B 46 1 v ys.length us ∧ ∀ j (hj:j < ys.length),∃ q d,us[j]? = some (.slice q ys[j].length d) ∧ mG w (fun k => B ≤ k ∧ k < w.heap.size ∧ v.ownBlock ≠ some k) q d ys[j]
theorem pn (w:World) (B:Nat):bD w B (.slice none 0 0) []:=⟨[],⟨rfl,.inl ⟨rfl,rfl⟩⟩,fun j hj => by simp at hj⟩
section
variable {w w':World} {B:Nat} {v:Value} {ys:List (List V)}
theorem bD.lt (h:bD w B v ys):∀ k,v.ownBlock = some k → B ≤ k ∧ k < w.heap.size:=by
 obtain ⟨us,h1,_⟩:=h.out
 exact World.ownsRow.lt h1
theorem bD.aside {G:Nat → Prop} (h:bD w B v ys) (ha:Aside G w w') (hG:∀ k,B ≤ k → k < w.heap.size → ¬ G k):bD w' B v ys:=by
 have hlt:=h.lt
 obtain ⟨us,h1,h2⟩:=h.out
 have hs:=ha.size
 refine ⟨us,⟨h1.1,?_⟩,fun j hj => ?_⟩
 ·rcases h1.2 with h3 | ⟨g,cap,cur,rfl,h4,h5,h6⟩
  ·exact .inl h3
  ·exact .inr ⟨g,cap,cur,rfl,h4,by rw [ha.block g (Array.getElem?_eq_some_iff.1 h5).1 (hG g h4 (Array.getElem?_eq_some_iff.1 h5).1)];exact h5,h6⟩
 ·obtain ⟨q,d,e1,e2⟩:=h2 j hj
  exact ⟨q,d,e1,(aN.aside e2 ha (fun k hk => hG k hk.1 hk.2.1)).mono (fun k hk => ⟨hk.1,by omega,hk.2.2⟩)⟩
theorem bD.on (h:bD w B v ys) (hb:Below w.heap.size w w'):bD w' B v ys:=h.aside (al hb (fun _ => False)) (fun _ _ _ hc => hc)
theorem bD.lower {B':Nat} (h:bD w B v ys) (hB:B' ≤ B):bD w B' v ys:=by
 obtain ⟨us,h1,h2⟩:=h.out
 refine ⟨us,⟨h1.1,?_⟩,fun j hj => ?_⟩
 ·rcases h1.2 with h3 | ⟨g,cap,cur,rfl,h4,h5,h6⟩
  ·exact .inl h3
  ·exact .inr ⟨g,cap,cur,rfl,by omega,h5,h6⟩
 ·obtain ⟨q,d,e1,e2⟩:=h2 j hj
  exact ⟨q,d,e1,aN.mono e2 (fun k hk => ⟨by omega,hk.2⟩)⟩
theorem bD.form (h:bD w B v ys):∃ q c,v = .slice q ys.length c ∧ ys.length ≤ c:=by
 obtain ⟨us,h1,h2⟩:=h.out
 rcases h1.2 with ⟨rfl,h3⟩ | ⟨g,cap,cur,rfl,_,_,h4,_⟩
 ·exact ⟨none,0,by rw [h3],by omega⟩
 ·exact ⟨_,_,rfl,h4⟩
theorem bD.rows {q:Option Addr} {c:Nat} (h:bD w B (.slice q ys.length c) ys) (hl:ys.length * 24 ≤ 140737488351232) (hw:∀ y ∈ ys,∀ x ∈ y,x.wf):eF w q c ys:=by
 obtain ⟨us,h1,h2⟩:=h.out
 rcases h1.2 with ⟨he,h3⟩ | ⟨g,cap,cur,he,h4,h5,h6,h7,h8,h9⟩
 ·injection he with e1 _ e2
  exact ⟨hl,by omega,fun j hj => by omega⟩
 ·injection he with e1 _ e2
  subst e1 e2
  refine ⟨hl,h6,fun j hj => ?_⟩
  obtain ⟨qj,dj,e3,e4⟩:=h2 j hj
  refine ⟨g,0,qj,dj,rfl,(Array.getElem?_eq_some_iff.1 h5).1,?_,aN.lies e4,hw _ (List.getElem_mem hj)⟩
  rw [aa h5]
  rw [← h9,List.getElem?_take] at e3
  simp only [Nat.mul_one] at e3
  rw [if_pos hj] at e3
  simpa using e3
end
theorem qW {w:World} {B:Nat} {v:Value} {ys:List (List V)} (h:bD w B v ys) (hB:B ≤ w.heap.size) (y:List V) (q:Option Addr) (d ad:Nat) (hblk:w.heap[ad]? = some (.cells #[.slice q y.length d] 46 (0,0))) (hn:ys.length ≤ 1000000)
  (hy:mG w (fun k => B ≤ k ∧ k < w.heap.size ∧ v.ownBlock ≠ some k) q d y) :
  ∃ g cap W,cL Tryz.prog 26 26 26 v (.slice (some ⟨ad,0,none⟩) 1 1) w (.slice (some ⟨g,0,none⟩) (ys ++ [y]).length cap) W ∧ bD W B (.slice (some ⟨g,0,none⟩) (ys ++ [y]).length cap) (ys ++ [y]) ∧ Aside (fun k => v.ownBlock = some k) w W:=by
 obtain ⟨i,hi,hz,hsz,hby⟩:=info_parts tE
 obtain ⟨us,h1,h2⟩:=h.out
 have hul:us.length = ys.length:=by rw [h1.1];omega
 obtain ⟨g,cap,W,hr,ho,hg,hor,hlt⟩:=run_append_lies (P:=Tryz.prog) w 26 26 B 46 i (.agg #[.slice none 0 0]) 1 24 Tryz.underlying26 hi hz hsz hby rfl (by decide) v ys.length us h1 ⟨ad,0,none⟩ 1 1 [.slice q y.length d] rfl (World.news_of_block hblk) (by simp [Value.oneCell']) (by decide) (by unfold maxLen;omega) (by omega) hB w.heap.size rfl
 have hlen:(ys ++ [y]).length = ys.length + 1:=by simp
 have hag:=cm hg
 have hsW:=hag.size
 have hgn:∀ k,k < w.heap.size → v.ownBlock ≠ some k → g ≠ k:=fun k hk hv hc => by
  subst hc
  rcases hor with h3 | h3
  ·exact hv h3
  ·omega
 refine ⟨g,cap,W,⟨by rw [hlen];exact hr⟩,⟨us ++ [.slice q y.length d],by rw [hlen];exact ho,fun j hj => ?_⟩,hag⟩
 have keep:∀ {q':Option Addr} {d':Nat} {z:List V},mG w (fun k => B ≤ k ∧ k < w.heap.size ∧ v.ownBlock ≠ some k) q' d' z → mG W (fun k => B ≤ k ∧ k < W.heap.size ∧ (Value.slice (some ⟨g,0,none⟩) (ys ++ [y]).length cap).ownBlock ≠ some k) q' d' z:=fun hz =>
  (aN.aside hz hag (fun k hk hc => hk.2.2 hc)).mono (fun k hk => ⟨hk.1,by omega,fun hc => by
   simp only [Value.ownBlock,Option.some.injEq] at hc
   exact hgn k hk.2.1 hk.2.2 hc⟩)
 by_cases hje:j < ys.length
 ·obtain ⟨q',d',e1,e2⟩:=h2 j hje
  refine ⟨q',d',?_,?_⟩
  ·rw [List.getElem?_append_left (by omega),e1,List.getElem_append_left hje]
  ·rw [List.getElem_append_left hje]
   exact keep e2
 ·have hj2:j = ys.length:=by rw [hlen] at hj;omega
  subst hj2
  refine ⟨q,d,?_,?_⟩
  ·rw [List.getElem?_append_right (by omega),hul]
   simp
  ·simp only [List.getElem_append_right (Nat.le_refl _),Nat.sub_self,List.getElem_cons_zero]
   exact keep hy
def sM (J:List (List V) → World → Prop) (X:Nat → World → Prop) (W:World):Except Nat (List (List V)) → Prop
 | .ok l => J l W
 | .error er => X er W
theorem qf (HR:RowsIn) (s:List Col) (p:Option Addr) (c:Nat) (b:List UInt8) (q:Option Addr) (d:Nat) (n:Nat) (hb:b.length ≤ 2048) (hn:n ≤ 64) (hbd:b.length ≤ d) (sb bb nb:Nat)
  (L:Nat) (J:List (List V) → World → Prop) (X:Nat → World → Prop) (W:World) (hJb:∀ ys W,J ys W → bF W p c s ∧ At W q b ∧ W.heap[sb]? = some (.cells #[.slice p s.length c] 31 (0,0)) ∧ W.heap[bb]? = some (.cells #[.slice q b.length d] 22 (0,0)) ∧ W.heap[nb]? = some (.cells #[.int .i64 n] 3 (0,0))) (hJn:∀ ys W W',J ys W → Below W.heap.size W W' → J ys W') (h0:J [] W)
  (good:∀ m ys y W1 W2 qq dd,ys.length < n → J ys W1 → Below W1.heap.size W1 W2 → mG W2 (fun k => W1.heap.size ≤ k ∧ k < W2.heap.size) qq dd y → YieldAt Fence.wide m Tryz.prog L #[.agg #[.slice qq y.length dd],.int .i64 0] W2 fun e W' => ∃ b,e = .returned (.bool b) ∧ b = true ∧ J (ys ++ [y]) W')
  (bad:∀ m ys W (er:Nat),J ys W → er ≠ 0 → YieldAt Fence.wide m Tryz.prog L #[.agg #[.slice none 0 0],.int .i64 er] W fun e W' => ∃ b,e = .returned (.bool b) ∧ b = false ∧ X er W') :
  Calls Tryz.prog 121 #[.func (.yield L) #[] #[],.pointer (some ⟨nb,0,none⟩),.pointer (some ⟨sb,0,none⟩),.pointer (some ⟨bb,0,none⟩)] W fun e W' => (∃ v,e = .returned v) ∧ sM J X W' (Bt.whole s b n):=by
 have n0:=am (hJb [] W h0).2.2.2.2
 have HJb:=Lib.hid hJb
 have HJn:=Lib.hid hJn
 have H0:=Lib.hid h0
 have HG:=Lib.hid good
 have HBd:=Lib.hid bad
 have HRI:=Lib.hid HR
 clear hJb hJn h0 good bad HR
 refine (callsIn_wide (n:=3)).1 ?_
 refine callsIn_of_wp Tryz.func121 rfl trivial ?_ rfl
 simp only [Tryz.ntmps121,List.size_toArray,List.length_cons,List.length_nil,Nat.reduceAdd,Nat.reduceSub,Array.replicate_succ,Array.replicate_zero,List.push_toArray,List.append_toArray,List.nil_append,List.cons_append]
 gi_wp2
 gi_loopw [5,10] (fun v5 v10 wr => ∃ (i a:Nat) (ys:List (List V)),i ≤ n ∧ v10 = .int .i64 i ∧ v5 = .int .i64 a ∧ a ≤ b.length ∧ Hid (Bt.rows s b i 0 = .ok (ys,a) ∧ ys.length = i ∧ J ys wr)) (fun _ v10 _ => n - (intOf v10).toNat)
 case atStart => exact ⟨0,0,[],by omega,rfl,rfl,by omega,rfl,rfl,H0.out⟩
 case round =>
  clear n0
  obtain ⟨i,a,ys,hi,rfl,rfl,ha,HK⟩:=hrel
  obtain ⟨hS0,hA0,hsb0,hbb0,-⟩:=HJb.out ys wr HK.out.2.2
  by_cases hlt:i < n
  ·have hlt':(i:Int) < (n:Int):=by omega
   have n1:=am hsb0
   have n2:=am hbb0
   have hD:=HRI.out.decode s p c b q d a wr hS0 (by omega) hbd hA0 (by omega) (by omega)
   have hsn:=Bt.rows_snoc i 0 ys a HK.out.1
   cases hrd:Rw.read s b a with
   | error er =>
    rw [hrd] at hD hsn
    have hne:=Rw.read_err hrd
    have HW:Hid (Bt.whole s b n = .error er):=by
     show _ = _
     have:=Bt.rows_stop (i + 1) 0 er (n - (i + 1)) hsn
     rw [show i + 1 + (n - (i + 1)) = n by omega] at this
     unfold Bt.whole
     rw [this]
    have HD:=Lib.hid hD
    clear hD hsn hS0 hA0 hsb0 hbb0 hrd
    gi_wp2
    refine ⟨trivial,?_⟩
    refine (callsIn_wide.2 HD.out).mono ?_
    rintro e w1 ⟨rfl,hb1⟩
    have g1:((er:Int) != 0) = true:=aS (by omega)
    obtain ⟨w2,hw2⟩:∃ w2,w2 = w1.alloc (.cells #[.slice none 0 0] 46):=⟨_,rfl⟩
    have hb2:Below wr.heap.size wr w2:=by rw [hw2];exact hb1.alloc hb1.size _
    obtain ⟨fn,tmps,assign,body,hy,hR1⟩:=HBd.out 2 ys w2 er (HJn.out ys wr w2 HK.out.2.2 hb2) hne
    rw [hw2] at hy hR1
    clear hb1 hb2 hw2 HD
    gi_wp2
    refine hR1.mono ?_
    rintro e w3 ⟨bb,rfl,rfl,hX3⟩
    have HX3:=Lib.hid hX3
    clear hX3
    gi_wp2
    refine bodyPost_ret (results_none rfl _ _ _) rfl ?_
    refine ⟨⟨_,rfl⟩,?_⟩
    rw [HW.out]
    exact HX3.out
   | ok pr =>
    obtain ⟨y,k⟩:=pr
    rw [hrd] at hD hsn
    have hk:=(Rw.read_ok hrd).2.2.2.1
    have HD:=Lib.hid hD
    have HSn:=Lib.hid hsn
    clear hD hsn hS0 hA0 hsb0 hbb0 hrd
    gi_wp2
    refine ⟨trivial,?_⟩
    refine (callsIn_wide.2 HD.out).mono ?_
    rintro e w1 ⟨qq,dd,rfl,hown,hb1⟩
    obtain ⟨w2,hw2⟩:∃ w2,w2 = w1.alloc (.cells #[.slice qq y.length dd] 46):=⟨_,rfl⟩
    have hb2:Below wr.heap.size wr w2:=by rw [hw2];exact hb1.alloc hb1.size _
    have hs2:w2.heap.size = w1.heap.size + 1:=by rw [hw2];simp
    have hb12:Below w1.heap.size w1 w2:=by rw [hw2];exact (Below.refl _ _).alloc (Nat.le_refl _) _
    obtain ⟨fn,tmps,assign,body,hy,hR1⟩:=HG.out 2 ys y wr w2 qq dd (by rw [HK.out.2.1];exact hlt) HK.out.2.2 hb2 ((hown.under hb12 (fun k hk => hk.2)).mono (fun k hk => ⟨hk.1,by omega⟩))
    rw [hw2] at hy hR1
    clear hb1 hb2 hw2 hs2 hb12 HD hown
    gi_wp2
    refine hR1.mono ?_
    rintro e w3 ⟨bb,rfl,rfl,hJ3⟩
    have HJ3:=Lib.hid hJ3
    clear hJ3
    gi_wp2
    go_roundw
    case rel =>
     refine ⟨i + 1,k,ys ++ [y],by omega,by go_num,rfl,hk,HSn.out,by simp [HK.out.2.1],HJ3.out⟩
    case measure => simp [intOf];omega
  ·have hie:i = n:=by omega
   subst hie
   have n2:=am hbb0
   by_cases hend:a < b.length
   ·have hend':(a:Int) < (b.length:Int):=by omega
    have HW:Hid (Bt.whole s b i = .error 5):=by
     show _ = _
     unfold Bt.whole
     rw [HK.out.1]
     exact if_pos hend
    obtain ⟨fn,tmps,assign,body,hy,hR1⟩:=HBd.out 2 ys wr 5 HK.out.2.2 (by decide)
    simp only [Int.cast_ofNat_Int] at hy
    clear hS0 hA0 hsb0 hbb0
    gi_wp2
    refine hR1.mono ?_
    rintro e w3 ⟨bb,rfl,rfl,hX3⟩
    have HX3:=Lib.hid hX3
    clear hX3
    gi_wp2
    go_end0
    refine ⟨⟨_,rfl⟩,?_⟩
    rw [HW.out]
    exact HX3.out
   ·have HW:Hid (Bt.whole s b i = .ok ys):=by
     show _ = _
     unfold Bt.whole
     rw [HK.out.1]
     exact if_neg hend
    have hend':¬ (a:Int) < (b.length:Int):=by omega
    clear hS0 hA0 hsb0 hbb0
    gi_wp2
    go_end0
    refine ⟨⟨_,rfl⟩,?_⟩
    rw [HW.out]
    exact HK.out.2.2
end
section
open Go.RowKit Go.Shelf
attribute [local go_sem] af Oper.semAt_some
def w8 (w:World) (r:Except Nat (List (List V))) (e:Ending) (w':World):Prop:=match r with
 | .error er => e = .returned (.tuple #[.slice none 0 0,.int .i64 (er:Nat)]) ∧ Below w.heap.size w w'
 | .ok l => ∃ q c,e = .returned (.tuple #[.slice q l.length c,.int .i64 0]) ∧ bD w' w.heap.size (.slice q l.length c) l ∧ Below w.heap.size w w'
theorem sw (s:List Col) (p:Option Addr) (c m:Nat) (q:Option Addr) (d:Nat) (n:Int) (w:World) :
  Calls Tryz.prog 85 #[.agg #[.slice p s.length c],.slice q m d,.int .i64 n] w fun e w' => e = .returned (.func (.func 121) #[] #[.pointer (some ⟨w.heap.size + 1 + 1,0,none⟩),.pointer (some ⟨w.heap.size,0,none⟩),.pointer (some ⟨w.heap.size + 1,0,none⟩)]) ∧ w' = ((w.alloc (.cells #[.slice p s.length c] 31)).alloc (.cells #[.slice q m d] 22)).alloc (.cells #[.int .i64 n] 3):=by
 go_enter Tryz.func85,Tryz.ntmps85
 go_wp2
 go_ret
 exact ⟨rfl,rfl⟩
structure js (w w3:World) (B:Nat) (rec:Loop) (v:Value) (ys:List (List V)) (W:World):Prop where
 below:Below w.heap.size w W
 same:∀ k,k < w3.heap.size → k ≠ B → W.heap[k]? = w3.heap[k]?
 box:W.heap[B]? = some (.cells #[v] 26 (0,0))
 has:bD W (w3.heap.size + 2) v ys
 dfr:W.heap[w3.heap.size]? = some (.deferred (some []))
 lp:W.heap[w3.heap.size + 1]? = some (.loop rec)
 size:w3.heap.size + 2 ≤ W.heap.size
structure vI (w w3:World) (rec:Loop) (er:Nat) (W:World):Prop where
 below:Below w.heap.size w W
 r1:W.heap[w.heap.size + 1]? = some (.cells #[.slice none 0 0] 26 (0,0))
 r2:W.heap[w.heap.size + 1 + 1]? = some (.cells #[.int .i64 er] 37 (0,0))
 dfr:W.heap[w3.heap.size]? = some (.deferred (some []))
 lp:W.heap[w3.heap.size + 1]? = some (.loop rec)
section
variable {w w3 W W':World} {B:Nat} {rec:Loop} {v v':Value} {xs ys:List (List V)}
theorem js.on (h:js w w3 B rec v xs W) (hb:Below W.heap.size W W'):js w w3 B rec v xs W':=by
 have hs:=h.size
 have hw:=h.below.size
 have hB:=ar h.box
 exact ⟨h.below.trans (hb.mono hw),fun k hk hne => (hb.block k (by omega)).trans (h.same k hk hne),aI h.box hb hB,h.has.on hb,aI h.dfr hb (by omega),aI h.lp hb (by omega),by have:=hb.size;omega⟩
theorem js.turn (h:js w w3 B rec v xs W) (hw:w.heap.size ≤ w3.heap.size) (hB:B < w3.heap.size) (rec':Loop):js w w3 B rec' v xs (W.putObj (w3.heap.size + 1) (.loop rec')):=by
 have hs:=h.size
 exact ⟨h.below.trans (bv _ (by omega) h.below.size),fun k hk hne => (World.putObj_heap_other (by omega)).trans (h.same k hk hne),(World.putObj_heap_other (by omega)).trans h.box,h.has.aside (dv _) (fun k hk _ hc => by omega),(World.putObj_heap_other (by omega)).trans h.dfr,World.putObj_heap_same (by omega),by simp;omega⟩
theorem js.more (h:js w w3 B rec v xs W) (hw:w.heap.size ≤ B) (hB:B < w3.heap.size) (ha:Aside (fun k => v.ownBlock = some k) W W') (hh:bD W' (w3.heap.size + 2) v' ys) :
  W'.heap[B]? = some (.cells #[v] 26 (0,0)) ∧ js w w3 B rec v' ys (W'.setCell ⟨B,0,none⟩ v'):=by
 have hs:=h.size
 have hold:∀ k,k < w3.heap.size + 2 → W'.heap[k]? = W.heap[k]?:=fun k hk => ha.block k (by omega) (fun hc => by have:=(h.has.lt k hc).1;omega)
 have hbx:W'.heap[B]? = some (.cells #[v] 26 (0,0)):=(hold B (by omega)).trans h.box
 have hset:∀ k,k ≠ B → (W'.setCell ⟨B,0,none⟩ v').heap[k]? = W'.heap[k]?:=fun k hk => Below.heap_setCell _ _ _ _ hk
 have hbW:Below w.heap.size W W':=ha.below h.below.size (fun k hk hc => by have:=(h.has.lt k hc).1;omega)
 refine ⟨hbx,⟨(h.below.trans hbW).setCell (p:=⟨B,0,none⟩) hw _,fun k hk hne => ?_,by simpa using ai hbx 0 v',?_,?_,?_,?_⟩⟩
 ·rw [hset k hne,hold k (by omega)];exact h.same k hk hne
 ·exact hh.aside ((Aside.refl (fun k => k = B) W').setCell (p:=⟨B,0,none⟩) (.inl rfl) v') (fun k hk _ hc => by omega)
 ·rw [hset _ (by omega),hold _ (by omega)];exact h.dfr
 ·rw [hset _ (by omega),hold _ (by omega)];exact h.lp
 ·have:=ha.size
  have:(W'.setCell ⟨B,0,none⟩ v').heap.size = W'.heap.size:=by simp [World.setCell]
  omega
end
theorem At.keepB {w w':World} {p:Option Addr} {l:List UInt8} {A:Nat} (h:At w p l) (hp:∀ b o,p = some ⟨b,o,none⟩ → b < A) (hk:∀ k,k < A → w'.heap[k]? = w.heap[k]?) (hs:w.heap.size ≤ w'.heap.size):At w' p l:=by
 rcases h with rfl | ⟨b,o,rfl,h1,h2⟩
 ·exact .inl rfl
 ·refine .inr ⟨b,o,rfl,by omega,fun j hj => ?_⟩
  rw [World.cell?_of_block (w:=w) (hk b (hp b o rfl))]
  exact h2 j hj
theorem pa {F:Fence} {n:Nat} {B:Nat} {v:Value} {ys:List (List V)} {w:World} (h:bD w B v ys) (hB:B ≤ w.heap.size) (y:List V) (q:Option Addr) (d ad:Nat) (hblk:w.heap[ad]? = some (.cells #[.slice q y.length d] 46 (0,0))) (hn:ys.length ≤ 1000000)
  (hy:mG w (fun k => B ≤ k ∧ k < w.heap.size ∧ v.ownBlock ≠ some k) q d y)
  {ops:Array Oper} {rest:List Oper} {o:Oper} {a:Act} {Q:Exit → Act → World → Prop} {yy x:Operand}
  (ht:o.type = 26) (hg:o.guard = none) (hop:o.op = Op.call { callee:=Callee.builtin Builtin.append,args:=#[yy,x],argTypes:=#[26,26] })
  (hs:a.eval yy = v) (hx:a.eval x = .slice (some ⟨ad,0,none⟩) 1 1)
  (hK:∀ zs g cap W,Hid (zs = ys ++ [y]) → bD W B (.slice (some ⟨g,0,none⟩) zs.length cap) zs → Aside (fun k => v.ownBlock = some k) w W → wpListIn F n Tryz.prog ops Q rest (a.put o.dst (.slice (some ⟨g,0,none⟩) zs.length cap)) W) :
  wpListIn F n Tryz.prog ops Q (o :: rest) a w:=by
 obtain ⟨g,cap,W,hr,hm,ha⟩:=qW h hB y q d ad hblk hn hy
 have hr':cL Tryz.prog 26 26 o.type v (.slice (some ⟨ad,0,none⟩) 1 1) w (.slice (some ⟨g,0,none⟩) (ys ++ [y]).length cap) W:=by rw [ht];exact hr
 exact dq hr' hg hop hs hx (hK _ g cap W (Lib.hid rfl) hm ha)
theorem qJ (HR:RowsIn) (s:List Col) (p:Option Addr) (c:Nat) (b:List UInt8) (q:Option Addr) (d:Nat) (n:Int) (w:World) (hS:bF w p c s) (hbl:b.length ≤ 140737488351232) (hbd:b.length ≤ d) (hat:At w q b) :
    Calls Tryz.prog 52 #[.agg #[.slice p s.length c],.slice q b.length d,.int .i64 n] w (w8 w (Bt.unpack s b n)):=by
  obtain ⟨W0,hW0⟩:∃ W0,W0 = ((w.alloc (.cells #[.slice p s.length c] 31)).alloc (.cells #[.slice none 0 0] 26)).alloc (.cells #[.int .i64 0] 37):=⟨_,rfl⟩
  obtain ⟨k0,k1,k2,hb0,hs0⟩:=al3 w (.cells #[.slice p s.length c] 31) (.cells #[.slice none 0 0] 26) (.cells #[.int .i64 0] 37)
  rw [← hW0] at k0 k1 k2 hb0 hs0
  have HC:=Lib.hid (oQ HR s p c n W0 (hS.on hb0))
  have HK:=Lib.hid (And.intro k0 (And.intro k1 k2))
  have HB0:=Lib.hid hb0
  have HW0:=Lib.hid hW0
  have HS:=Lib.hid hS
  have HA:=Lib.hid hat
  have HRI:=Lib.hid HR
  obtain ⟨R,hR⟩:∃ R,R = Bt.unpack s b n:=⟨_,rfl⟩
  rw [← hR]
  unfold Bt.unpack at hR
  obtain ⟨en,hen⟩:∃ en,en = Bt.numErr s n:=⟨_,rfl⟩
  rw [← hen] at HC hR
  have HRR:=Lib.hid hR
  have HEn:=Lib.hid hen
  clear hb0 hW0 hS HR hR hen k0 k1 k2 hat
  refine (callsIn_wide (n:=5)).1 ?_
  refine callsIn_of_wp_marks Tryz.func52 rfl trivial ?_ rfl
  simp only [Tryz.ntmps52,List.size_toArray,List.length_cons,List.length_nil,Nat.reduceAdd,Nat.reduceSub,Array.replicate_succ,Array.replicate_zero,List.push_toArray,List.append_toArray,List.nil_append,List.cons_append]
  gi_wp2
  refine ⟨trivial,?_⟩
  rw [← HW0.out]
  refine (callsIn_wide.2 HC.out).mono ?_
  rintro e w1 ⟨rfl,hb1⟩
  have HBw1:=Lib.hid (HB0.out.trans (hb1.mono HB0.out.size))
  have hs1:=hb1.size
  have j0:=aI HK.out.1 hb1 (by omega)
  have j1:=aI HK.out.2.1 hb1 (by omega)
  have j2:=aI HK.out.2.2 hb1 (by omega)
  have n0:=am j0
  have n1:=am j1
  have n2:=am j2
  have f1:=aF j1
  have f2:=aF j2
  have HJ:=Lib.hid (And.intro j0 (And.intro j1 j2))
  clear hb1 HC HW0 HK j0 j1 j2
  by_cases h0:en ≠ 0
  · have g0:((en:Int) != 0) = true:=aS (by omega)
    have HE:Hid (R = .error en):=HRR.out.trans (if_pos h0)
    clear HRR h0
    gi_wp2
    have j2:=ai (au HJ.out.2.2 ⟨w.heap.size + 1,0,none⟩ (.slice none 0 0) (by simp)) 0 (.int .i64 en)
    have j1:=au (ai HJ.out.2.1 0 (.slice none 0 0)) ⟨w.heap.size + 1 + 1,0,none⟩ (.int .i64 en) (by simp)
    refine ⟨_,bw rfl _ _ (w.heap.size + 1) (w.heap.size + 1 + 1) _ _ rfl (am j1) Tryz.underlying26 rfl (am j2) Tryz.underlying37,?_⟩
    rw [HE.out]
    exact ⟨rfl,(HBw1.out.setCell (p:=⟨w.heap.size + 1,0,none⟩) (by simp) _).setCell (p:=⟨w.heap.size + 1 + 1,0,none⟩) (by simp;omega) _⟩
  have g0:((en:Int) != 0) = false:=aY (by omega)
  have HR1:=Lib.hid (HRR.out.trans (if_neg h0))
  have HEn0:Hid (Bt.numErr s n = 0):=by show _ = 0;rw [← HEn.out];omega
  obtain ⟨nn,hnn⟩:∃ nn:Nat,n = nn:=⟨n.toNat,by have:=(Bt.numErr_open HEn0.out).2.1;omega⟩
  subst hnn
  have hn64:nn ≤ 64:=by have:=(Bt.numErr_open HEn0.out).2.2;omega
  rw [Int.toNat_natCast] at HR1
  clear HRR h0 HEn
  have HU:=Lib.hid (tb b q d w1 hbl hbd (HA.out.on HBw1.out))
  have hul:=(Blk.unpack_len b).1
  obtain ⟨U,hU⟩:∃ U,U = Blk.unpack b:=⟨_,rfl⟩
  rw [← hU] at HU HR1 hul
  clear hU
  gi_wp2
  refine ⟨trivial,?_⟩
  refine (callsIn_wide.2 HU.out).mono ?_
  rintro e w2 ⟨q2,m2,c2,rfl,hm2,hh2,hb2⟩
  subst hm2
  have HBw2:=Lib.hid (HBw1.out.trans (hb2.mono HBw1.out.size))
  have hs2:=hb2.size
  have j0:=aI HJ.out.1 hb2 (by omega)
  have j1:=aI HJ.out.2.1 hb2 (by omega)
  have j2:=aI HJ.out.2.2 hb2 (by omega)
  have n0:=am j0
  have n1:=am j1
  have n2:=am j2
  have f1:=aF j1
  have f2:=aF j2
  have HJ2:=Lib.hid (And.intro j0 (And.intro j1 j2))
  have HH2:=Lib.hid hh2
  clear hb2 hh2 HU HJ j0 j1 j2
  by_cases h1:U.err ≠ 0
  · have g1:((U.err:Int) != 0) = true:=aS (by omega)
    have HE:Hid (R = .error U.err):=HR1.out.trans (if_pos h1)
    clear HR1 h1
    gi_wp2
    have j2:=ai (au HJ2.out.2.2 ⟨w.heap.size + 1,0,none⟩ (.slice none 0 0) (by simp)) 0 (.int .i64 U.err)
    have j1:=au (ai HJ2.out.2.1 0 (.slice none 0 0)) ⟨w.heap.size + 1 + 1,0,none⟩ (.int .i64 U.err) (by simp)
    refine ⟨_,bw rfl _ _ (w.heap.size + 1) (w.heap.size + 1 + 1) _ _ rfl (am j1) Tryz.underlying26 rfl (am j2) Tryz.underlying37,?_⟩
    rw [HE.out]
    exact ⟨rfl,(HBw2.out.setCell (p:=⟨w.heap.size + 1,0,none⟩) (by simp) _).setCell (p:=⟨w.heap.size + 1 + 1,0,none⟩) (by simp;omega) _⟩
  have g1:((U.err:Int) != 0) = false:=aY (by omega)
  have HR2:=Lib.hid (HR1.out.trans (if_neg h1))
  clear HR1 h1
  have z0:=fun o => ae ((Below.refl w2.heap.size w2).alloc (Nat.le_refl _) o) n0
  clear n1 n2 f1 f2
  gi_wp2
  refine ⟨trivial,?_⟩
  refine (callsIn_wide.2 (sw s p c U.out.length q2 c2 nn _)).mono ?_
  rintro e w3 ⟨rfl,hw3⟩
  obtain ⟨m0,m1,m2,m3,mb,ms⟩:=al4 w2 (.cells #[.slice none 0 0] 26) (.cells #[.slice p s.length c] 31) (.cells #[.slice q2 U.out.length c2] 22) (.cells #[.int .i64 nn] 3)
  rw [← hw3] at m0 m1 m2 m3 mb ms
  have hms:w2.heap.size + 4 ≤ w3.heap.size:=by omega
  have HM:=Lib.hid (And.intro m0 (And.intro m1 (And.intro m2 (And.intro m3 mb))))
  have hBw3:=Lib.hid (HBw2.out.trans (mb.mono HBw2.out.size))
  have hh3:=HH2.out.on mb
  obtain ⟨pv,cv,hpv,hat3,hcv⟩:=hh3.at
  injection hpv with e1 _ e2
  subst e1 e2
  have HAt3:=Lib.hid hat3
  have HLow:Hid (∀ b o,q2 = some ⟨b,o,none⟩ → b < w2.heap.size):=fun b o hq => (HH2.out.place b o hq).2
  clear hw3 m0 m1 m2 m3 mb ms z0 n0 hh3 hat3
  gi_wp2
  refine jS (gf:=121) rfl (enters_of Tryz.func121 (by kernel_rfl) rfl) ?_
  intro fn
  generalize hrec:il fn _ _ _ _ _ = rec
  have hlo:w.heap.size + 3 ≤ w2.heap.size:=by omega
  have hww:w.heap.size ≤ w3.heap.size:=by omega
  have HREC:=Lib.hid hrec
  clear hrec
  refine (qf HRI.out s p c U.out q2 c2 nn hul hn64 hcv (w2.heap.size + 1) (w2.heap.size + 1 + 1) (w2.heap.size + 1 + 1 + 1) (w3.heap.size + 1) (fun ys W => ∃ v,js w w3 w2.heap.size (rec .ready none) v ys W) (fun er W => vI w w3 (rec .done (some .ret)) er W) _ ?hJb ?hJn ?h0 ?good ?bad).mono ?_
  case hJb =>
    rintro ys W ⟨v,h⟩
    refine ⟨HS.out.on h.below,?_,(h.same _ (by omega) (by omega)).trans HM.out.2.1,(h.same _ (by omega) (by omega)).trans HM.out.2.2.1,(h.same _ (by omega) (by omega)).trans HM.out.2.2.2.1⟩
    exact At.keepB (A:=w2.heap.size) HAt3.out HLow.out (fun k hk => h.same k (by omega) (by omega)) (by have:=h.size;omega)
  case hJn =>
    rintro ys W W' ⟨v,h⟩ hb
    exact ⟨v,h.on hb⟩
  case h0 =>
    obtain ⟨a0,a1,ab,asz⟩:=al2 w3 (.deferred (some [])) (.loop (rec .ready none))
    exact ⟨.slice none 0 0,hBw3.out.trans (ab.mono hww),fun k hk _ => ab.block k hk,aI HM.out.1 ab (by omega),pn _ _,a0,a1,by omega⟩
  case good =>
    rintro m ys y W1 W2 qq dd hyn ⟨v,h1⟩ hb12 hown
    have h2:=h1.on hb12
    have hlp:=h2.lp
    rw [← HREC.out] at hlp
    refine fk (R:=fun b W' => b = true ∧ ∃ v,js w w3 w2.heap.size (rec .ready none) v (ys ++ [y]) W') hlp rfl ?_
    obtain ⟨Wr,hWr⟩:∃ Wr,Wr = W2.alloc (.cells #[.slice qq y.length dd] 46):=⟨_,rfl⟩
    have hb2r:Below W2.heap.size W2 Wr:=by rw [hWr];exact (Below.refl _ _).alloc (Nat.le_refl _) _
    have hrb:Wr.heap[W2.heap.size]? = some (.cells #[.slice qq y.length dd] 46 (0,0)):=by rw [hWr];exact ap W2 _
    have hr:=h2.on hb2r
    have hlr:=hr.lp
    rw [← HREC.out] at hlr
    obtain ⟨Wb,hWb⟩:∃ Wb,Wb = Wr.putObj (w3.heap.size + 1) (.loop (rec .busy none)):=⟨_,rfl⟩
    have hb:=hr.turn hww (by omega) (rec .busy none)
    have hbb:Wb.heap[W2.heap.size]? = some (.cells #[.slice qq y.length dd] 46 (0,0)):=by rw [hWb];exact (World.putObj_heap_other (by have:=h2.size;omega)).trans hrb
    have ha2b:Aside (fun k => k = w3.heap.size + 1) W2 Wb:=by rw [hWb];exact (al hb2r _).trans (dv _) (fun _ _ h => h)
    rw [← hWb] at hb
    rw [← HREC.out] at hWb
    have hob:mG Wb (fun k => w3.heap.size + 2 ≤ k ∧ k < Wb.heap.size ∧ v.ownBlock ≠ some k) qq dd y:=by
      refine (aN.aside hown ha2b (fun k hk hc => ?_)).mono (fun k hk => ⟨?_,?_,fun hc => ?_⟩)
      · have:=h1.size;omega
      · have:=h1.size;omega
      · have:=ha2b.size;omega
      · have:=(h1.has.lt k hc).2;omega
    obtain ⟨Wc,hWc⟩:∃ Wc,Wc = Wb.alloc (.cells #[.slice qq y.length dd] 46):=⟨_,rfl⟩
    have hbc:Below Wb.heap.size Wb Wc:=by rw [hWc];exact (Below.refl _ _).alloc (Nat.le_refl _) _
    have hc:=hb.on hbc
    have hcb:Wc.heap[Wb.heap.size]? = some (.cells #[.slice qq y.length dd] 46 (0,0)):=by rw [hWc];exact ap Wb _
    have hoc:mG Wc (fun k => w3.heap.size + 2 ≤ k ∧ k < Wc.heap.size ∧ v.ownBlock ≠ some k) qq dd y:=(aN.aside hob (al hbc (fun _ => False)) (fun _ _ hc => hc)).mono (fun k hk => ⟨hk.1,by have:=hbc.size;omega,hk.2.2⟩)
    have n7:=am hb.box
    have n12:=am hbb
    have HC:=Lib.hid hc
    have HCB:=Lib.hid hcb
    have HOC:=Lib.hid hoc
    have HWr:=Lib.hid hWr
    have HWb:=Lib.hid hWb
    have HWc:=Lib.hid hWc
    have HLr:=Lib.hid hlr
    have hy6:ys.length ≤ 1000000:=by omega
    clear h1 h2 hr hb hc hWr hWb hWc hlr hlp hown hob hoc hb12 hb2r hrb hbb ha2b hbc hcb
    gi_wp2
    rw [← HWr.out]
    refine ⟨HLr.out,?_⟩
    rw [← HWb.out]
    gi_wp2_with (first
      | (gi_at_builtin
         rw [← HWc.out]
         refine pa HC.out.has HC.out.size y qq dd _ HCB.out hy6 HOC.out rfl rfl rfl rfl rfl ?_
         intro zs g3 cap3 W5 HY hh ha
         obtain ⟨hbx,hj⟩:=HC.out.more (by omega) (by omega) ha hh
         have n8:=am hbx
         have f8:=aF hbx
         have HJ3:=Lib.hid hj
         clear hh ha hbx hj)
      | fail)
    have hlp3:=HJ3.out.lp
    rw [← HREC.out] at hlp3
    refine ⟨hlp3,rfl,.slice (some ⟨g3,0,none⟩) zs.length cap3,?_⟩
    have ht:=HJ3.out.turn hww (by omega) (rec .ready none)
    rw [HREC.out,← HY.out]
    exact ht
  case bad =>
    rintro m ys W er ⟨v,h⟩ he
    have g2:((er:Int) != 0) = true:=aS (by omega)
    have hlp:=h.lp
    rw [← HREC.out] at hlp
    refine fk (R:=fun b W' => b = false ∧ vI w w3 (rec .done (some .ret)) er W') hlp rfl ?_
    obtain ⟨Wr,hWr⟩:∃ Wr,Wr = W.alloc (.cells #[.slice none 0 0] 46):=⟨_,rfl⟩
    have hbr:Below W.heap.size W Wr:=by rw [hWr];exact (Below.refl _ _).alloc (Nat.le_refl _) _
    have hr:=h.on hbr
    have hlr:=hr.lp
    rw [← HREC.out] at hlr
    have j1:Wr.heap[w.heap.size + 1]? = some (.cells #[.slice none 0 0] 26 (0,0)):=(hr.same _ (by omega) (by omega)).trans (aI HJ2.out.2.1 HM.out.2.2.2.2 (by omega))
    have j2:Wr.heap[w.heap.size + 1 + 1]? = some (.cells #[.int .i64 0] 37 (0,0)):=(hr.same _ (by omega) (by omega)).trans (aI HJ2.out.2.2 HM.out.2.2.2.2 (by omega))
    obtain ⟨Wb,hWb⟩:∃ Wb,Wb = Wr.putObj (w3.heap.size + 1) (.loop (rec .busy none)):=⟨_,rfl⟩
    have hb:=hr.turn hww (by omega) (rec .busy none)
    have b1:Wb.heap[w.heap.size + 1]? = some (.cells #[.slice none 0 0] 26 (0,0)):=by rw [hWb];exact (World.putObj_heap_other (by omega)).trans j1
    have b2:Wb.heap[w.heap.size + 1 + 1]? = some (.cells #[.int .i64 0] 37 (0,0)):=by rw [hWb];exact (World.putObj_heap_other (by omega)).trans j2
    rw [← hWb] at hb
    rw [← HREC.out] at hWb
    have HBd:=Lib.hid hb
    have HLr:=Lib.hid hlr
    have n1:=am b1
    have f1:=aF b1
    have n2:=am b2
    have f2:=aF b2
    have HB12:=Lib.hid (And.intro b1 b2)
    have HWb:=Lib.hid hWb
    have HWr:=Lib.hid hWr
    clear hlp hlr hb hr hbr j1 j2 b1 b2 hWb hWr h he
    gi_wp2
    rw [← HWr.out]
    refine ⟨HLr.out,?_⟩
    rw [← HWb.out]
    gi_wp2
    have c2':=ai (au HB12.out.2 ⟨w.heap.size + 1,0,none⟩ (.slice none 0 0) (by simp)) 0 (.int .i64 er)
    have c1':=au (ai HB12.out.1 0 (.slice none 0 0)) ⟨w.heap.size + 1 + 1,0,none⟩ (.int .i64 er) (by simp)
    have hset:∀ k,w.heap.size + 2 < k → ((Wb.setCell ⟨w.heap.size + 1,0,none⟩ (.slice none 0 0)).setCell ⟨w.heap.size + 1 + 1,0,none⟩ (.int .i64 er)).heap[k]? = Wb.heap[k]?:=fun k hk => by
      rw [Below.heap_setCell _ _ _ _ (by simp;omega),Below.heap_setCell _ _ _ _ (by simp;omega)]
    have hbl:=((HBd.out.below.setCell (p:=⟨w.heap.size + 1,0,none⟩) (by simp) (.slice none 0 0)).setCell (p:=⟨w.heap.size + 1 + 1,0,none⟩) (by simp;omega) (.int .i64 er))
    have hlp2:=(hset (w3.heap.size + 1) (by omega)).trans HBd.out.lp
    have hdf2:=(hset w3.heap.size (by omega)).trans HBd.out.dfr
    rw [← HREC.out] at hlp2
    refine ⟨hlp2,rfl,?_⟩
    rw [HREC.out]
    exact ⟨hbl.trans (bv _ (by omega) hbl.size),(World.putObj_heap_other (by omega)).trans (by simpa using c1'),(World.putObj_heap_other (by omega)).trans (by simpa using c2'),(World.putObj_heap_other (by omega)).trans hdf2,World.putObj_heap_same (ar hlp2)⟩
  rintro e W4 ⟨⟨v4,rfl⟩,hend⟩
  rw [← HR2.out] at hend
  clear HR2
  cases R with
  | ok l =>
    obtain ⟨v,hJ4⟩:=hend
    have h5:=hJ4.turn hww (by omega) (rec .exhausted none)
    refine ⟨⟨_,rfl⟩,.inl ⟨hJ4.lp,?_⟩⟩
    obtain ⟨W5,hW5⟩:∃ W5,W5 = W4.putObj (w3.heap.size + 1) (.loop (rec .exhausted none)):=⟨_,rfl⟩
    rw [← hW5] at h5 ⊢
    obtain ⟨pv,cv,rfl,hcv2⟩:=h5.has.form
    have j1:W5.heap[w.heap.size + 1]? = some (.cells #[.slice none 0 0] 26 (0,0)):=(h5.same _ (by omega) (by omega)).trans (aI HJ2.out.2.1 HM.out.2.2.2.2 (by omega))
    have j2:W5.heap[w.heap.size + 1 + 1]? = some (.cells #[.int .i64 0] 37 (0,0)):=(h5.same _ (by omega) (by omega)).trans (aI HJ2.out.2.2 HM.out.2.2.2.2 (by omega))
    have H5:=Lib.hid h5
    have n7:=am h5.box
    have n1:=am j1
    have f1:=aF j1
    have n2:=am j2
    have f2:=aF j2
    have HJ12:=Lib.hid (And.intro j1 j2)
    clear hJ4 h5 j1 j2 hW5
    gi_wp2
    have c2':=ai (au HJ12.out.2 ⟨w.heap.size + 1,0,none⟩ (.slice pv l.length cv) (by simp)) 0 (.int .i64 0)
    have c1':=au (ai HJ12.out.1 0 (.slice pv l.length cv)) ⟨w.heap.size + 1 + 1,0,none⟩ (.int .i64 0) (by simp)
    have hdf:((W5.setCell ⟨w.heap.size + 1,0,none⟩ (.slice pv l.length cv)).setCell ⟨w.heap.size + 1 + 1,0,none⟩ (.int .i64 0)).heap[w3.heap.size]? = some (.deferred (some [])):=by
      rw [Below.heap_setCell _ _ _ _ (by simp;omega),Below.heap_setCell _ _ _ _ (by simp;omega)];exact H5.out.dfr
    have hbl:=((H5.out.below.setCell (p:=⟨w.heap.size + 1,0,none⟩) (by simp) (.slice pv l.length cv)).setCell (p:=⟨w.heap.size + 1 + 1,0,none⟩) (by simp;omega) (.int .i64 0))
    have hh:=(H5.out.has.aside ((((Aside.refl (fun k => k < w3.heap.size + 1) W5).setCell (p:=⟨w.heap.size + 1,0,none⟩) (.inl (by simp;omega)) (.slice pv l.length cv)).setCell (p:=⟨w.heap.size + 1 + 1,0,none⟩) (.inl (by simp;omega)) (.int .i64 0))) (fun k hk _ hc => by omega))
    have hh2:=hh.aside (dv (l:=w3.heap.size) (.deferred none)) (fun k hk _ hc => by omega)
    refine ⟨by simp,.inl ⟨_,_,rfl,run_takeDeferred hdf,?_⟩⟩
    refine ⟨_,bw rfl _ _ (w.heap.size + 1) (w.heap.size + 1 + 1) _ _ rfl (am ((World.putObj_heap_other (by omega)).trans c1')) Tryz.underlying26 rfl (am ((World.putObj_heap_other (by omega)).trans c2')) Tryz.underlying37,?_⟩
    exact ⟨pv,cv,rfl,hh2.lower (by omega),hbl.trans (bv _ (by omega) hbl.size)⟩
  | error er =>
    have hX4:vI w w3 (rec .done (some .ret)) er W4:=hend
    refine ⟨⟨_,rfl⟩,.inr ⟨hX4.lp,?_⟩⟩
    have HX:=Lib.hid hX4
    clear hX4 hend
    gi_wp2
    have hdf:(W4.putObj (w3.heap.size + 1) (.loop (rec .exhausted (some .ret)))).heap[w3.heap.size]? = some (.deferred (some [])):=(World.putObj_heap_other (by omega)).trans HX.out.dfr
    have hbl:=HX.out.below.trans (bv (l:=w3.heap.size + 1) (.loop (rec .exhausted (some .ret))) (by omega) HX.out.below.size)
    refine ⟨by simp,.inl ⟨_,_,rfl,run_takeDeferred hdf,?_⟩⟩
    refine ⟨_,bw rfl _ _ (w.heap.size + 1) (w.heap.size + 1 + 1) _ _ rfl (am ((World.putObj_heap_other (by omega)).trans ((World.putObj_heap_other (by omega)).trans HX.out.r1))) Tryz.underlying26 rfl (am ((World.putObj_heap_other (by omega)).trans ((World.putObj_heap_other (by omega)).trans HX.out.r2))) Tryz.underlying37,?_⟩
    exact ⟨rfl,hbl.trans (bv _ (by omega) hbl.size)⟩
end
section
open Go.RowKit
theorem qX:RowsIn:=⟨fun s p c vs q d w h1 h2 => ss s p c vs q d w h1 h2,fun s p c l q d a w h1 h2 h3 h4 h5 h6 => sx s p c l q d a w h1 h2 h3 h4 h5 h6⟩
end
end Go.Proofs.YtjpgbaiabmiifaaGreatDoor
