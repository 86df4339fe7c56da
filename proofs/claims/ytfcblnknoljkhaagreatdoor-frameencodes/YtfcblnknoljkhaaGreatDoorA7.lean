import Derived.Test.YtfcblnknoljkhaaGreatDoorA1
import Derived.Test.YtfcblnknoljkhaaGreatDoorB04
import Derived.Laws.Rows
import Derived.Test.YtfcblnknoljkhaaGreatDoorK12G
import Derived.Test.YtfcblnknoljkhaaGreatDoorA6
import Derived.Test.YtfcblnknoljkhaaGreatDoorA5
set_option maxRecDepth 100000
set_option maxHeartbeats 8000000
namespace Go.Proofs.YtfcblnknoljkhaaGreatDoor
open Go.RowKit
attribute [local go_sem] run_store_float
theorem plain_1 (n:Int) (sp:Option Addr) (sn sc:Nat) (bp:Option Addr) (bc:Nat) (ep:Option Addr) (ec:Nat) (w:World):Calls Tryz.prog 16 #[.agg #[.int .i64 1,.int .i64 n,.slice sp sn sc,.int .i64 0,.int .i64 0,.int .i64 0,.slice bp 0 bc,.int .i64 0,.int .i64 0,.int .i64 0,.slice ep 0 ec]] w fun e w' => e = .returned (.bool true) ∧ Below w.heap.size w w':=by
 have HB:Hid (∀ o,Below w.heap.size w (w.alloc o)):=fun o => (Below.refl _ _).alloc (Nat.le_refl _) _
 go_enter Tryz.func16,Tryz.ntmps16
 go_wp2
 go_ret
 exact ⟨rfl,HB.out _⟩
theorem plain_2 (n q f r:Int) (sp:Option Addr) (sc:Nat) (bp:Option Addr) (bn bc:Nat) (ep:Option Addr) (ec:Nat) (w:World):Calls Tryz.prog 16 #[.agg #[.int .i64 2,.int .i64 n,.slice sp 0 sc,.int .i64 q,.int .i64 f,.int .i64 r,.slice bp bn bc,.int .i64 0,.int .i64 0,.int .i64 0,.slice ep 0 ec]] w fun e w' => e = .returned (.bool true) ∧ Below w.heap.size w w':=by
 have HB:Hid (∀ o,Below w.heap.size w (w.alloc o)):=fun o => (Below.refl _ _).alloc (Nat.le_refl _) _
 go_enter Tryz.func16,Tryz.ntmps16
 go_wp2
 go_ret
 exact ⟨rfl,HB.out _⟩
theorem plain_3 (a b c:Int) (sp:Option Addr) (sc:Nat) (bp:Option Addr) (bc:Nat) (ep:Option Addr) (en ec:Nat) (w:World):Calls Tryz.prog 16 #[.agg #[.int .i64 3,.int .i64 0,.slice sp 0 sc,.int .i64 0,.int .i64 0,.int .i64 0,.slice bp 0 bc,.int .i64 a,.int .i64 b,.int .i64 c,.slice ep en ec]] w fun e w' => e = .returned (.bool true) ∧ Below w.heap.size w w':=by
 have HB:Hid (∀ o,Below w.heap.size w (w.alloc o)):=fun o => (Below.refl _ _).alloc (Nat.le_refl _) _
 go_enter Tryz.func16,Tryz.ntmps16
 go_wp2
 go_ret
 exact ⟨rfl,HB.out _⟩
theorem norm_parts {f:Fr} (hn:Fr.norm f = f):(f.kind = 1 → f.seq = 0 ∧ f.first = 0 ∧ f.rows = 0 ∧ f.block = [] ∧ f.index = Idx0) ∧ (f.kind = 2 → f.cols = [] ∧ f.index = Idx0) ∧ (f.kind = 3 → f.number = 0 ∧ f.seq = 0 ∧ f.first = 0 ∧ f.rows = 0 ∧ f.block = [] ∧ f.cols = []):=by
 refine ⟨fun h => ?_,fun h => ?_,fun h => ?_⟩
 ·have e:=hn
  unfold Fr.norm at e
  rw [if_pos h] at e
  rw [← e]
  exact ⟨rfl,rfl,rfl,rfl,rfl⟩
 ·have e:=hn
  unfold Fr.norm at e
  rw [if_neg (by omega),if_pos h] at e
  rw [← e]
  exact ⟨rfl,rfl⟩
 ·have e:=hn
  unfold Fr.norm at e
  rw [if_neg (by omega),if_neg (by omega)] at e
  rw [← e]
  exact ⟨rfl,rfl,rfl,rfl,rfl,rfl⟩
theorem plainF (f:Fr) (hn:Fr.norm f = f) (hk:f.kind = 1 ∨ f.kind = 2 ∨ f.kind = 3) (u:Array Value) (w:World) (h:FLies w u f):Calls Tryz.prog 16 #[.agg u] w fun e w' => e = .returned (.bool true) ∧ Below w.heap.size w w':=by
 obtain ⟨sp,sc,bp,bc,ep,ec,rfl,-⟩:=h.out
 obtain ⟨p1,p2,p3⟩:=norm_parts hn
 unfold cells11
 rcases hk with hk | hk | hk
 ·obtain ⟨e1,e2,e3,e4,e5⟩:=p1 hk
  rw [hk,e1,e2,e3,e4,e5]
  exact plain_1 _ _ _ _ _ _ _ _ w
 ·obtain ⟨e1,e2⟩:=p2 hk
  rw [hk,e1,e2]
  exact plain_2 _ _ _ _ _ _ _ _ _ _ _ w
 ·obtain ⟨e1,e2,e3,e4,e5,e6⟩:=p3 hk
  rw [hk,e1,e2,e3,e4,e5,e6]
  exact plain_3 _ _ _ _ _ _ _ _ _ _ w
def smallF:Fr:={ Fr0 with kind:=1,cols:=[⟨⟨#[97]⟩,⟨2,[]⟩,false,V0⟩] }
theorem small_wf:smallF.wf:=by
 refine ⟨by simp [smallF,Fr.i64],by simp [smallF,Fr0,Fr.i64],?_,by simp [smallF,Fr0,Fr.i64],by simp [smallF,Fr0,Fr.i64],by simp [smallF,Fr0,Fr.i64],by simp [smallF,Fr0,Idx0,Fr.i64],by simp [smallF,Fr0,Idx0]⟩
 intro c hc
 simp [smallF] at hc
 subst hc
 exact ⟨by decide,Ty.wf_mk.2 ⟨by omega,fun x hx => by cases hx⟩,Sch.v0_wf⟩
theorem tl_leafF (w:World) (k:Int) (p:Option Addr) (c:Nat):TLies w (cells2 k p 0 c) (.mk k []):=.mk (xs:=[]) (fun _ => #[]) (by simp) (by simp) (fun hc => absurd rfl hc) (fun j hj => by simp at hj)
theorem vl_leafF (w:World) (k i:Int) (b:Nat) (t:ByteArray) (p:Option Addr) (c:Nat):VLies w (cells5 k i b t p 0 c) (.mk k i b t []):=.mk (xs:=[]) (fun _ => #[]) (by simp) (by simp) (fun hc => absurd rfl hc) (fun j hj => by simp at hj)
theorem smallK (w:World):Calls Tryz.prog 13 #[] w fun e w' => ∃ u,e = .returned (.agg u) ∧ FLies w' u smallF ∧ Below w.heap.size w w':=by
 obtain ⟨W,hW⟩:∃ W,W = (w.alloc (.cells #[.int .i64 1,.int .i64 0,.slice (some ⟨w.heap.size + 1,0,none⟩) 1 1,.int .i64 0,.int .i64 0,.int .i64 0,.slice none 0 0,.int .i64 0,.int .i64 0,.int .i64 0,.slice none 0 0] 30)).alloc (.cells #[.string ⟨#[97]⟩,.int .i64 2,.slice none 0 0,.bool false,.int .i64 0,.int .i64 0,.float .f64 0,.string ⟨#[]⟩,.slice none 0 0] 70):=⟨_,rfl⟩
 have h0:W.heap[w.heap.size]? = some (.cells #[.int .i64 1,.int .i64 0,.slice (some ⟨w.heap.size + 1,0,none⟩) 1 1,.int .i64 0,.int .i64 0,.int .i64 0,.slice none 0 0,.int .i64 0,.int .i64 0,.int .i64 0,.slice none 0 0] 30 (0,0)):=by rw [hW,blk_old _ _ (by simp)];exact blk_new w _
 have h1:W.heap[w.heap.size + 1]? = some (.cells #[.string ⟨#[97]⟩,.int .i64 2,.slice none 0 0,.bool false,.int .i64 0,.int .i64 0,.float .f64 0,.string ⟨#[]⟩,.slice none 0 0] 70 (0,0)):=by
  rw [hW]
  have:=blk_new (w.alloc (.cells #[.int .i64 1,.int .i64 0,.slice (some ⟨w.heap.size + 1,0,none⟩) 1 1,.int .i64 0,.int .i64 0,.int .i64 0,.slice none 0 0,.int .i64 0,.int .i64 0,.int .i64 0,.slice none 0 0] 30)) (.cells #[.string ⟨#[97]⟩,.int .i64 2,.slice none 0 0,.bool false,.int .i64 0,.int .i64 0,.float .f64 0,.string ⟨#[]⟩,.slice none 0 0] 70)
  simpa using this
 have HB:Hid (Below w.heap.size w W):=by rw [hW];exact ((Below.refl _ _).alloc (Nat.le_refl _) _).alloc (by simp) _
 have h3:=blk_cell h1
 have hcols:Cols W (some ⟨w.heap.size + 1,0,none⟩) smallF.cols:=by
  intro j hj
  have hj2:j < 1:=hj
  obtain rfl:j = 0:=by omega
  refine ⟨cells9 ⟨#[97]⟩ 2 none 0 0 false 0 0 0 ⟨#[]⟩ none 0 0,⟨2,none,0,0,0,0,0,⟨#[]⟩,none,0,0,rfl,tl_leafF W 2 none 0,vl_leafF W 0 0 0 ⟨#[]⟩ none 0⟩,⟨w.heap.size + 1,0,⟨#[97]⟩,2,none,0,0,false,0,0,0,⟨#[]⟩,none,0,0,rfl,blk_lt h1,rfl,?_⟩⟩
  exact ⟨h3 0,h3 1,h3 2,h3 3,h3 4,h3 5,h3 6,h3 7,h3 8⟩
 have HL:Hid (FLies W #[.int .i64 1,.int .i64 0,.slice (some ⟨w.heap.size + 1,0,none⟩) 1 1,.int .i64 0,.int .i64 0,.int .i64 0,.slice none 0 0,.int .i64 0,.int .i64 0,.int .i64 0,.slice none 0 0] smallF) :=
  ⟨some ⟨w.heap.size + 1,0,none⟩,1,none,0,none,0,rfl,by decide,by decide,hcols,by decide,by decide,.inl rfl,by decide,by decide,ents_nil _ _⟩
 have H0:=Lib.hid h0
 have HW:=Lib.hid hW
 clear hcols h0 h1 h3 hW
 go_enter Tryz.func13,Tryz.ntmps13
 go_wp2
 rw [← HW.out]
 refine bodyPost_ret (results_cell_row rfl _ _ w.heap.size _ _ _ _ rfl H0.out Tryz.underlying30 rfl (by kernel_rfl)) rfl ?_
 exact ⟨_,rfl,HL.out,HB.out⟩
end Go.Proofs.YtfcblnknoljkhaaGreatDoor
namespace Go.Proofs.YtfcblnknoljkhaaGreatDoor
open Go.RowKit
attribute [local go_sem] run_store_float
theorem smallA_err:Sch.colErr [] ⟨⟨#[97]⟩,⟨2,[]⟩,false,V0⟩ = 0:=Sch.col_make (by kernel_rfl) rfl (Sch.ty_leaf (by omega) (by omega) (by omega)) (fun _ => Sch.v0_fix) (fun h => by cases h)
theorem small_bytes:Sch.bytes smallF.cols = [1,1,97,2,0]:=by
 unfold Sch.bytes smallF Sch.cB
 simp only [List.map_cons,List.map_nil,Sch.tyB_mk]
 kernel_rfl
theorem small_sch:Sch.err smallF.cols = 0:=Sch.err_make (by decide) (by decide) (by
 show Sch.colsErr [] [⟨⟨#[97]⟩,⟨2,[]⟩,false,V0⟩] = 0
 rw [Sch.colsErr,if_pos smallA_err,Sch.colsErr]) (by rw [small_bytes];decide)
theorem small_err0:Fr.err0 smallF = 0:=by
 unfold Fr.err0
 rw [if_pos (show smallF.kind = 1 from rfl),if_neg (by decide)]
 exact small_sch
theorem small_head:Fr.head smallF = [1,0,1,1,97,2,0]:=by
 unfold Fr.head Fr.fields
 rw [if_pos (show smallF.kind = 1 from rfl),small_bytes]
 kernel_rfl
theorem small_len:(Fr.run smallF).length = 12:=by
 unfold Fr.run
 rw [small_head]
 kernel_rfl
theorem small_err:Fr.err smallF = 0:=by
 unfold Fr.err
 rw [small_err0,if_neg (by decide),if_neg (by rw [small_len];decide)]
theorem small_dec:Fr.dec (Fr.run smallF) = .ok (Fr.norm smallF):=Fr.dec_run small_err small_wf.2.2.1
theorem small_norm:Fr.norm (Fr.norm smallF) = Fr.norm smallF:=(Fr.dec_ok small_dec).2.2.1
theorem small_same:Fr.same (Fr.norm smallF) smallF = true:=Fr.norm_same small_err0
theorem dec_nil:Fr.dec [] = .error 30:=by
 have h:Fr.open_ [] = .error 30:=by unfold Fr.open_;kernel_rfl
 unfold Fr.dec
 rw [h]
def fourF:Fr:={ Fr0 with kind:=4 }
theorem four_err:Fr.err fourF = 60:=by kernel_rfl
theorem four_wf:fourF.wf:=⟨by simp [fourF,Fr.i64],by simp [fourF,Fr0,Fr.i64],by simp [fourF,Fr0],by simp [fourF,Fr0,Fr.i64],by simp [fourF,Fr0,Fr.i64],by simp [fourF,Fr0,Fr.i64],by simp [fourF,Fr0,Idx0,Fr.i64],by simp [fourF,Fr0,Idx0]⟩
theorem lies_plain (w:World) (k:Int):FLies w #[.int .i64 k,.int .i64 0,.slice none 0 0,.int .i64 0,.int .i64 0,.int .i64 0,.slice none 0 0,.int .i64 0,.int .i64 0,.int .i64 0,.slice none 0 0] { Fr0 with kind:=k } :=
 ⟨none,0,none,0,none,0,rfl,by simp [Fr0],by simp [Fr0],fun j hj => by simp [Fr0] at hj,by simp [Fr0],by simp [Fr0],.inl rfl,by simp [Fr0,Idx0],by simp [Fr0,Idx0],ents_nil _ _⟩
theorem mid_at {w:World} {B g cap:Nat} {rn:List UInt8} (h:Mine w B g cap (0 :: (rn ++ [0]))):At w (some ⟨g,1,none⟩) rn ∧ w.cell? ⟨g,0,none⟩ = some (.int .u8 0) ∧ w.cell? ⟨g,rn.length + 1,none⟩ = some (.int .u8 0) ∧ rn.length + 2 ≤ cap:=by
 obtain ⟨hg,hc,-⟩:=h.free
 have hcap:=h.base.2.2
 refine ⟨.inr ⟨g,1,rfl,hg,fun j hj => ?_⟩,?_,?_,?_⟩
 ·have:=hc (j + 1) (by simp;omega)
  rw [show 1 + j = 0 + (j + 1) by omega,this]
  simp [List.getElem_append_left hj]
 ·have:=hc 0 (by simp)
  simpa using this
 ·have:=hc (rn.length + 1) (by simp)
  rw [Nat.zero_add] at this
  rw [this]
  simp
 ·simp at hcap
  omega
theorem run_mid (g n cap:Nat) (hc:n + 2 ≤ cap) (w:World):(Instr.slice 25 (.slice (some ⟨g,0,none⟩) (n + 2) cap) (some (.int .i64 1)) (some (.int .i64 ((n + 1:Nat):Int))) none).run Tryz.prog w = .ok (.slice (some ⟨g,1,none⟩) n (cap - 1)) w:=by
 have hs:(sizeOf (Tryz.prog.elem 25)).run Tryz.prog w = .ok 1 w:=by kernel_rfl
 rw [run_slice_lh w 25 (some ⟨g,0,none⟩) (n + 2) cap (by kernel_rfl) .i64 .i64 1 ((n + 1:Nat):Int) (by omega) (by omega) (by omega),hs]
 have e:cap ≠ 1:=by omega
 simp [sliced,Result.andThen,e,Addr.add]
theorem live12 (w:World) (hv:Hv w):Calls Tryz.prog 6 #[] w fun e w' => e = .returned (.bool true) ∧ Below w.heap.size w w':=by
 have HHv:=Lib.hid hv
 clear hv
 go_enter Tryz.func6,Tryz.ntmps6
 go_wp2_with fail
 refine (smallK w).mono ?_
 rintro e w1 ⟨u1,rfl,hf1,hb1⟩
 have hE:=encodeF smallF small_wf u1 w1 (HHv.out.next hb1) hf1
 rw [small_err] at hE
 have HE:=Lib.hid hE
 have HB1:=Lib.hid hb1
 clear hE hf1 hb1
 go_wp2_with fail
 refine HE.out.mono ?_
 rintro e w2 (⟨-,q,cap,rfl,hh,hb2⟩ | ⟨hz,-⟩)
 rotate_left
 ·exact absurd rfl hz
 have HB2:=Lib.hid (HB1.out.trans (hb2.mono HB1.out.size))
 have hln:=small_len
 have hdc:=small_dec
 obtain ⟨rn,hrn⟩:∃ rn,rn = Fr.run smallF:=⟨_,rfl⟩
 rw [← hrn] at hh hln hdc ⊢
 have hol:(0 :: (rn ++ [0])).length = 14:=by simp [hln]
 rw [hol] at hh ⊢
 obtain ⟨g,rfl,hm⟩:∃ g,q = some ⟨g,0,none⟩ ∧ Mine w2 w1.heap.size g cap (0 :: (rn ++ [0])):=by
  rcases hh.form with ⟨h1,h2⟩ | ⟨g,cap',h1,h2⟩
  ·cases h2
  ·injection h1 with h3 _ h4
   subst h4
   exact ⟨g,h3,h2⟩
 obtain ⟨hmid,hf0,hl0,hcap⟩:=mid_at hm
 rw [hln] at hl0 hcap
 have s1:∀ w',(Instr.slice 25 (.slice (some ⟨g,0,none⟩) 14 cap) (some (.int .i64 1)) (some (.int .i64 13)) none).run Tryz.prog w' = .ok (.slice (some ⟨g,1,none⟩) 12 (cap - 1)) w':=fun w' => run_mid g 12 cap hcap w'
 have HMid:=Lib.hid hmid
 have HDc:=Lib.hid hdc
 have HLn:=Lib.hid hln
 have HC0:=Lib.hid hf0
 have HC13:=Lib.hid hl0
 clear hh hb2 hrn hol hm hmid hdc hln hf0 hl0 HE
 have hD:=decodeF none 0 [] (by decide) (by decide) w2 (HHv.out.next HB2.out) (.inl rfl)
 rw [dec_nil] at hD
 have HD:=Lib.hid hD
 clear hD
 go_wp2_with fail
 refine HD.out.mono ?_
 rintro e w3 ⟨rfl,hb3⟩
 have HB23:=Lib.hid hb3
 clear hb3 HD
 obtain ⟨w4,hw4⟩:∃ w4,w4 = w3.alloc (.cells #[.int .i64 0,.int .i64 0,.slice none 0 0,.int .i64 0,.int .i64 0,.int .i64 0,.slice none 0 0,.int .i64 0,.int .i64 0,.int .i64 0,.slice none 0 0] 30):=⟨_,rfl⟩
 have HB24:Hid (Below w2.heap.size w2 w4):=by rw [hw4];exact HB23.out.alloc HB23.out.size _
 have HB4:=Lib.hid (HB2.out.trans (HB24.out.mono HB2.out.size))
 have hE4:=encodeF fourF four_wf #[.int .i64 4,.int .i64 0,.slice none 0 0,.int .i64 0,.int .i64 0,.int .i64 0,.slice none 0 0,.int .i64 0,.int .i64 0,.int .i64 0,.slice none 0 0] w4 (HHv.out.next HB4.out) (lies_plain w4 4)
 rw [four_err] at hE4
 have HE4:=Lib.hid hE4
 have HW4:Hid (w3.alloc (.cells #[.int .i64 0,.int .i64 0,.slice none 0 0,.int .i64 0,.int .i64 0,.int .i64 0,.slice none 0 0,.int .i64 0,.int .i64 0,.int .i64 0,.slice none 0 0] 30) = w4):=by rw [hw4];exact rfl
 clear hE4 hw4
 go_wp2_with fail
 rw [HW4.out]
 refine HE4.out.mono ?_
 rintro e w5 (⟨hz,-⟩ | ⟨-,rfl,hb5⟩)
 ·exact absurd hz (by decide)
 have hb25:=HB24.out.trans (hb5.mono HB24.out.size)
 have HB25:=Lib.hid hb25
 have HB5:=Lib.hid (HB2.out.trans (hb25.mono HB2.out.size))
 have c0:=cell_on hb25 HC0.out
 have c13:w5.cell? ⟨g,13,none⟩ = some (.int .u8 0):=cell_on hb25 HC13.out
 have hD5:=decodeF (some ⟨g,1,none⟩) (cap - 1) rn (by have:=HLn.out;omega) (by have:=HLn.out;omega) w5 (HHv.out.next HB5.out) (HMid.out.on hb25)
 rw [HDc.out,HLn.out] at hD5
 have HD5:=Lib.hid hD5
 clear hb5 hb25 hD5 HE4 HW4
 go_wp2_with fail
 refine HD5.out.mono ?_
 rintro e w6 ⟨u6,rfl,hf6,hb6⟩
 have HB6:=Lib.hid (HB5.out.trans (hb6.mono HB5.out.size))
 have hl6:=hf6.lies
 obtain ⟨sp,sc,bp,bc,ep,ec,hu6,-⟩:=hl6.out
 have HF6:=Lib.hid hl6
 clear hf6 hb6 hl6 HD5
 subst hu6
 unfold cells11 at HF6 ⊢
 have HF7:Hid (∀ w',Below w6.heap.size w6 w' → FLies w' #[.int .i64 (Fr.norm smallF).kind,.int .i64 (Fr.norm smallF).number,.slice sp (Fr.norm smallF).cols.length sc,.int .i64 (Fr.norm smallF).seq,.int .i64 (Fr.norm smallF).first,.int .i64 (Fr.norm smallF).rows,.slice bp (Fr.norm smallF).block.length bc,.int .i64 (Fr.norm smallF).index.at_,.int .i64 (Fr.norm smallF).index.frames,.int .i64 (Fr.norm smallF).index.rows,.slice ep (Fr.norm smallF).index.entries.length ec] (Fr.norm smallF)):=fun w' hb => HF6.out.on hb
 obtain ⟨F,hF⟩:∃ F,F = Fr.norm smallF:=⟨_,rfl⟩
 have hns:=small_norm
 have hsm:=small_same
 have hkd:(Fr.norm smallF).kind = 1:=rfl
 rw [← hF] at HF7 hns hsm hkd ⊢
 obtain ⟨a0,ha0⟩:∃ a0,a0 = F.kind:=⟨_,rfl⟩
 obtain ⟨a1,ha1⟩:∃ a1,a1 = F.number:=⟨_,rfl⟩
 obtain ⟨a2,ha2⟩:∃ a2,a2 = F.cols.length:=⟨_,rfl⟩
 obtain ⟨a3,ha3⟩:∃ a3,a3 = F.seq:=⟨_,rfl⟩
 obtain ⟨a4,ha4⟩:∃ a4,a4 = F.first:=⟨_,rfl⟩
 obtain ⟨a5,ha5⟩:∃ a5,a5 = F.rows:=⟨_,rfl⟩
 obtain ⟨a6,ha6⟩:∃ a6,a6 = F.block.length:=⟨_,rfl⟩
 obtain ⟨a7,ha7⟩:∃ a7,a7 = F.index.at_:=⟨_,rfl⟩
 obtain ⟨a8,ha8⟩:∃ a8,a8 = F.index.frames:=⟨_,rfl⟩
 obtain ⟨a9,ha9⟩:∃ a9,a9 = F.index.rows:=⟨_,rfl⟩
 obtain ⟨a10,ha10⟩:∃ a10,a10 = F.index.entries.length:=⟨_,rfl⟩
 rw [← ha0,← ha1,← ha2,← ha3,← ha4,← ha5,← ha6,← ha7,← ha8,← ha9,← ha10] at HF7 ⊢
 have HNs:=Lib.hid hns
 have HSm:=Lib.hid hsm
 have HKd:=Lib.hid hkd
 obtain ⟨U,hU⟩:∃ U,U = (#[.int .i64 a0,.int .i64 a1,.slice sp a2 sc,.int .i64 a3,.int .i64 a4,.int .i64 a5,.slice bp a6 bc,.int .i64 a7,.int .i64 a8,.int .i64 a9,.slice ep a10 ec]:Array Value):=⟨_,rfl⟩
 obtain ⟨w7,hw7⟩:∃ w7,w7 = w6.alloc (.cells #[.int .i64 a0,.int .i64 a1,.slice sp a2 sc,.int .i64 a3,.int .i64 a4,.int .i64 a5,.slice bp a6 bc,.int .i64 a7,.int .i64 a8,.int .i64 a9,.slice ep a10 ec] 30):=⟨_,rfl⟩
 have HB67:Hid (Below w6.heap.size w6 w7):=by rw [hw7];exact (Below.refl _ _).alloc (Nat.le_refl _) _
 have hX:=blk_new w6 (.cells #[.int .i64 a0,.int .i64 a1,.slice sp a2 sc,.int .i64 a3,.int .i64 a4,.int .i64 a5,.slice bp a6 bc,.int .i64 a7,.int .i64 a8,.int .i64 a9,.slice ep a10 ec] 30)
 rw [← hw7] at hX
 have x0:w7.cell? ⟨w6.heap.size,0,none⟩ = some (.int .i64 a0):=blk_cell hX 0
 have x1:w7.cell? ⟨w6.heap.size,1,none⟩ = some (.int .i64 a1):=blk_cell hX 1
 have x2:w7.cell? ⟨w6.heap.size,2,none⟩ = some (.slice sp a2 sc):=blk_cell hX 2
 have x3:w7.cell? ⟨w6.heap.size,3,none⟩ = some (.int .i64 a3):=blk_cell hX 3
 have x4:w7.cell? ⟨w6.heap.size,4,none⟩ = some (.int .i64 a4):=blk_cell hX 4
 have x5:w7.cell? ⟨w6.heap.size,5,none⟩ = some (.int .i64 a5):=blk_cell hX 5
 have x6:w7.cell? ⟨w6.heap.size,6,none⟩ = some (.slice bp a6 bc):=blk_cell hX 6
 have x7:w7.cell? ⟨w6.heap.size,7,none⟩ = some (.int .i64 a7):=blk_cell hX 7
 have x8:w7.cell? ⟨w6.heap.size,8,none⟩ = some (.int .i64 a8):=blk_cell hX 8
 have x9:w7.cell? ⟨w6.heap.size,9,none⟩ = some (.int .i64 a9):=blk_cell hX 9
 have x10:w7.cell? ⟨w6.heap.size,10,none⟩ = some (.slice ep a10 ec):=blk_cell hX 10
 have HSm1:Hid (∀ w',Below w7.heap.size w7 w' → Calls Tryz.prog 13 #[] w' fun e w'' => ∃ u,e = .returned (.agg u) ∧ FLies w'' u smallF ∧ Below w7.heap.size w7 w''):=fun w' hb => (smallK w').mono fun e w'' ⟨u,h1,h2,h3⟩ => ⟨u,h1,h2,hb.trans (h3.mono hb.size)⟩
 have HSame:Hid (∀ w' u,Below w7.heap.size w7 w' → FLies w' u smallF → Calls Tryz.prog 15 #[.agg #[.int .i64 a0,.int .i64 a1,.slice sp a2 sc,.int .i64 a3,.int .i64 a4,.int .i64 a5,.slice bp a6 bc,.int .i64 a7,.int .i64 a8,.int .i64 a9,.slice ep a10 ec],.agg u] w' fun e w'' => e = .returned (.bool true) ∧ Below w7.heap.size w7 w''):=fun w' u hb hu => by
  have:=sameF F smallF #[.int .i64 a0,.int .i64 a1,.slice sp a2 sc,.int .i64 a3,.int .i64 a4,.int .i64 a5,.slice bp a6 bc,.int .i64 a7,.int .i64 a8,.int .i64 a9,.slice ep a10 ec] u w' (HF7.out w' (HB67.out.trans (hb.mono HB67.out.size))) hu
  rw [HSm.out] at this
  exact this.mono fun e w'' ⟨h1,h2⟩ => ⟨h1,hb.trans (h2.mono hb.size)⟩
 have HPl:Hid (∀ w',Below w7.heap.size w7 w' → Calls Tryz.prog 16 #[.agg #[.int .i64 a0,.int .i64 a1,.slice sp a2 sc,.int .i64 a3,.int .i64 a4,.int .i64 a5,.slice bp a6 bc,.int .i64 a7,.int .i64 a8,.int .i64 a9,.slice ep a10 ec]] w' fun e w'' => e = .returned (.bool true) ∧ Below w7.heap.size w7 w''):=fun w' hb =>
  (plainF F HNs.out (by have:=HKd.out;omega) #[.int .i64 a0,.int .i64 a1,.slice sp a2 sc,.int .i64 a3,.int .i64 a4,.int .i64 a5,.slice bp a6 bc,.int .i64 a7,.int .i64 a8,.int .i64 a9,.slice ep a10 ec] w' (HF7.out w' (HB67.out.trans (hb.mono HB67.out.size)))).mono fun e w'' ⟨h1,h2⟩ => ⟨h1,hb.trans (h2.mono hb.size)⟩
 have HW7:Hid (w6.alloc (.cells #[.int .i64 a0,.int .i64 a1,.slice sp a2 sc,.int .i64 a3,.int .i64 a4,.int .i64 a5,.slice bp a6 bc,.int .i64 a7,.int .i64 a8,.int .i64 a9,.slice ep a10 ec] 30) = w7):=by rw [hw7];exact rfl
 have HB7:=Lib.hid (HB6.out.trans (HB67.out.mono HB6.out.size))
 clear hX hw7 hU U hF hns hsm hkd ha0 ha1 ha2 ha3 ha4 ha5 ha6 ha7 ha8 ha9 ha10 HF7 HNs HSm HKd HF6
 go_wp2_with fail
 rw [HW7.out]
 go_region_held3 (fun w' => w'.cell? ⟨w6.heap.size,0,none⟩ = some (.int .i64 a0) ∧ w'.cell? ⟨w6.heap.size,1,none⟩ = some (.int .i64 a1) ∧ w'.cell? ⟨w6.heap.size,2,none⟩ = some (.slice sp a2 sc) ∧ w'.cell? ⟨w6.heap.size,3,none⟩ = some (.int .i64 a3) ∧ w'.cell? ⟨w6.heap.size,4,none⟩ = some (.int .i64 a4) ∧ w'.cell? ⟨w6.heap.size,5,none⟩ = some (.int .i64 a5) ∧ w'.cell? ⟨w6.heap.size,6,none⟩ = some (.slice bp a6 bc) ∧ w'.cell? ⟨w6.heap.size,7,none⟩ = some (.int .i64 a7) ∧ w'.cell? ⟨w6.heap.size,8,none⟩ = some (.int .i64 a8) ∧ w'.cell? ⟨w6.heap.size,9,none⟩ = some (.int .i64 a9) ∧ w'.cell? ⟨w6.heap.size,10,none⟩ = some (.slice ep a10 ec)) (go_keep) (first
  | (go_at_call 13;refine (HSm1.out _ ((Below.refl _ _).drew)).mono ?_;rintro e w8 ⟨u8,rfl,hf8,hb8⟩;have y0:=cell_on hb8 x0;have y1:=cell_on hb8 x1;have y2:=cell_on hb8 x2;have y3:=cell_on hb8 x3;have y4:=cell_on hb8 x4;have y5:=cell_on hb8 x5;have y6:=cell_on hb8 x6;have y7:=cell_on hb8 x7;have y8:=cell_on hb8 x8;have y9:=cell_on hb8 x9;have y10:=cell_on hb8 x10;have HF8:=Lib.hid hf8;have HB8:=Lib.hid hb8;clear hf8 hb8)
  | (go_at_call 15;refine (HSame.out _ u8 HB8.out HF8.out).mono ?_;rintro e w9 ⟨rfl,hb9⟩;have z0:=cell_on hb9 x0;have z1:=cell_on hb9 x1;have z2:=cell_on hb9 x2;have z3:=cell_on hb9 x3;have z4:=cell_on hb9 x4;have z5:=cell_on hb9 x5;have z6:=cell_on hb9 x6;have z7:=cell_on hb9 x7;have z8:=cell_on hb9 x8;have z9:=cell_on hb9 x9;have z10:=cell_on hb9 x10;have HB9:=Lib.hid hb9;clear hb9)
  | (go_at_call 16;refine (HPl.out _ HB9.out).mono ?_;rintro e w10 ⟨rfl,hb10⟩;have t0:=cell_on hb10 x0;have t1:=cell_on hb10 x1;have t2:=cell_on hb10 x2;have t3:=cell_on hb10 x3;have t4:=cell_on hb10 x4;have t5:=cell_on hb10 x5;have t6:=cell_on hb10 x6;have t7:=cell_on hb10 x7;have t8:=cell_on hb10 x8;have t9:=cell_on hb10 x9;have t10:=cell_on hb10 x10;have HB10:=Lib.hid hb10;clear hb10)
  | fail)
 go_wp2
 go_ret
 exact ⟨rfl,HB7.out.trans (HB10.out.mono HB7.out.size)⟩
end Go.Proofs.YtfcblnknoljkhaaGreatDoor
