import Derived.Test.YtllbniljgcgbeaaGreatDoorB13
set_option maxRecDepth 100000
set_option maxHeartbeats 4000000
namespace Go.Proofs.YtllbniljgcgbeaaGreatDoor
section
open Go.RowKit Go.Sort
theorem ta:bits BinOp.and IntKind.u64 16 (IntKind.u64.wrap (-16))=16:=by kernel_rfl
theorem s9:IntKind.u64.wrap 4573923408821661840=4573923408821661840:=by kernel_rfl
def Tz(w:World):Prop:=w.cell? ⟨6,15,none⟩=some (.int .u8 4)
theorem pD(w:World):
  Calls Tryz.prog 191 #[.int .i64 16] w fun e w'=>e=.returned (.bool true)∧w'=w:=by
 go_enter Tryz.func191,Tryz.ntmps191
 go_wp2
 go_ret
 exact⟨rfl,rfl⟩
theorem sA(w:World)(hc:w.cell? ⟨6,15,none⟩=some (.int .u8 4)):
  Calls Tryz.prog 192 #[.int .u64 16] w fun e w'=>e=.returned (.int .i64 4)∧w'=w:=by
 have h1:=ta
 have h2:=s9
 go_enter Tryz.func192,Tryz.ntmps192
 go_wp2
 go_ret
 exact⟨rfl,rfl⟩
def iu:ByteArray:=⟨#[48,49,50,51,52,53,54,55,56,57,97,98,99,100,101,102,103,104,105,106,107,108,109,110,111,112,113,114,115,116,117,118,119,120,121,122]⟩
theorem pT:∀n:Fin 16,iu.data.toList.getD n.val 0=Hex.hexd n.val:=by decide
theorem re(n:Nat)(h:n<16)(h':n<iu.size):iu[n]=Hex.hexd n:=by
 rw[Lib.getD_at iu n h']
 exact pT ⟨n,h⟩
theorem kT(k:IntKind)(z:Int)(n:Nat)(hz:z=(n:Int))(h:n<16)(w:World):
  (Instr.index 9 (.string iu) (.int k z)).run Tryz.prog w=.ok (.int .u8 ((Hex.hexd n).toNat:Int)) w:=by
 subst hz
 have hsz:iu.size=36:=by decide
 rw[run_index_string w 9 iu k _ Tryz.underlying9,dif_pos ⟨by omega,by rw[hsz];omega⟩]
 have e:((n:Int)).toNat=n:=by omega
 simp only[e]
 rw[re n h (by rw[hsz];omega)]
theorem sr(v:Nat)(h:v<18446744073709551616):bits .and .u64 (v:Int) 15=((v % 16:Nat):Int):=by
 have:=bits_and_u64_nat v 15 h (by omega)
 rw[show v &&& 15=v % 16 from Nat.and_two_pow_sub_one_eq_mod v 4] at this
 exact this
theorem qk:Tryz.zeroCells195=Array.replicate 65 (Value.int .u8 0):=by kernel_rfl
theorem ll(i:Nat)(h:i<65):(Tryz.zeroCells195)[i]?=some (.int .u8 0):=by
 rw[qk];simp[h]
theorem jM(w:World)(T:TypeId):Holds (fun(b:UInt8)=>Value.int .u8 (b.toNat:Int)) (w.alloc (.cells Tryz.zeroCells195 T)) w.1.size 0 (Array.replicate 65 (0:UInt8)):=fun j hj=>by
 have hj':j<65:=by simpa using hj
 refine⟨?_,World.frozen?_alloc_new _ _ _ _⟩
 rw[World.cell?_alloc_new,Nat.zero_add,ll j hj']
 simp[hj']
theorem below_putRow{B:Nat}{a w:World}(h:RowKit.Below B a w)(d:Array UInt8):RowKit.Below B a (putRow (fun(b:UInt8)=>Value.int .u8 (b.toNat:Int)) w B 0 d):=by
 refine⟨h.os,h.tape,h.output,by simpa using h.size,fun k hk=>?_⟩
 rw[<-h.block k hk]
 simp only[putRow,mapBlock]
 rw[Array.getElem?_modify,if_neg (by omega)]
theorem ir(u:Nat)(hu:u<18446744073709551616)(w:World)(hz:Tz w)(hg:6<w.1.size):
  Calls Tryz.prog 171 #[.slice none 0 0,.int .u64 u,.int .i64 16,.bool false,.bool false] w fun e w'=>
   ∃k,1<=k∧k<=16∧u<16 ^ k∧e=.returned (.tuple #[.slice none 0 0,.string ⟨(Hex.digits u k).toArray⟩])∧Below w.1.size w w':=by
 have hH:=jM w 195
 have hz1:(w.alloc (.cells Tryz.zeroCells195 195)).cell? ⟨6,15,none⟩=some (.int .u8 4):=by
  rw[World.cell?_alloc_past];exact hz
  exact hg
 have HZ:=tQ hz1
 have AH:=tQ hH
 clear hz hz1 hH
 go_enter Tryz.func171,Tryz.ntmps171
 go_name_bytes MS hMS
 clear hMS
 go_name_bytes SM hSM
 have eSM:SM=iu:=by rw[<-hSM];decide +kernel
 subst eSM
 clear hSM
 go_wp2_with fail
 refine(pD _).mono ?_
 rintro e w' ⟨rfl,rfl⟩
 go_wp2_with fail
 refine(sA _ HZ.out).mono ?_
 rintro e w' ⟨rfl,rfl⟩
 go_wp2
 go_loopw [1,13] (fun vu vi wr=>∃(i v:Nat) (dk:Array UInt8),vu=.int .u64 v∧vi=.int .i64 i∧wr=putRow (fun(b:UInt8)=>Value.int .u8 (b.toNat:Int)) (w.alloc (.cells Tryz.zeroCells195 195)) w.1.size 0 dk∧Hid (Hex.Inv u i v dk)) (fun _ vi _=>(RowKit.intOf vi).toNat)
 case atStart=>exact⟨65,u,_,rfl,rfl,(putRow_self _ _ _ _ _ AH.out).symm,Hex.Inv.start u⟩
 case round=>
  obtain⟨i,v,dk,rfl,rfl,hw,HI⟩:=hrel
  rename World=>W0
  have hs:=HI.out.size
  have hle:=HI.out.le
  have hlow:=HI.out.low
  have hv64:v<18446744073709551616:=by have:=HI.out.rest;have:=Nat.div_le_self u (16 ^ (65-i));omega
  obtain⟨m,rfl⟩:∃m,i=m+1:=⟨i-1,by omega⟩
  have hH0:Holds (fun(b:UInt8)=>Value.int .u8 (b.toNat:Int)) W0 w.1.size 0 dk:=by rw[hw];exact holds_putRow _ _ _ _ _ dk AH.out (by simp[hs])
  obtain⟨G0,hG0⟩:∃G:Nat->Int,∀t,G t=(dk[t]!.toNat:Int):=⟨_,fun _=>rfl⟩
  have hc0:W0.cell? ⟨w.1.size,m,none⟩=some (.int .u8 (G0 m)):=by have:=(hH0 m (by omega)).1;rw[hG0];simpa using this
  have hf0:W0.frozen? ⟨w.1.size,m,none⟩=false:=by have:=(hH0 m (by omega)).2;simpa using this
  have hset:∀c:UInt8,W0.setCell ⟨w.1.size,m,none⟩ (.int .u8 (c.toNat:Int))=putRow (fun(b:UInt8)=>Value.int .u8 (b.toNat:Int)) (w.alloc (.cells Tryz.zeroCells195 195)) w.1.size 0 (dk.setIfInBounds m c):=fun c=>by
   have:=putRow_set (fun(b:UInt8)=>Value.int .u8 (b.toNat:Int)) (w.alloc (.cells Tryz.zeroCells195 195)) w.1.size 0 dk m c (by omega)
   rw[Nat.zero_add] at this
   rw[hw];exact this
  have HS:=tQ hset
  have HW:=tQ hw
  clear hset hw hG0 hH0 hs HZ hg
  by_cases hv:16<=v
  ·have hand:bits .and .u64 (v:Int) 15=(v:Int) % 16:=by have:=sr v hv64;simpa using this
   have hX:∀w,(Instr.index 9 (.string iu) (.int .u64 ((v:Int) % 16))).run Tryz.prog w=.ok (.int .u8 ((Hex.hexd (v % 16)).toNat:Int)) w:=kT .u64 _ (v % 16) (by omega) (by omega)
   go_wp2
   go_roundw
   case rel=>exact⟨m,v / 16,_,by first | go_num | (congr 1;omega),by first | go_num | (congr 1;omega),HS.out _,HI.out.step hu hv _ rfl⟩
   case measure=>simp[RowKit.intOf]
  ·have hX:∀w,(Instr.index 9 (.string iu) (.int .u64 (v:Int))).run Tryz.prog w=.ok (.int .u8 ((Hex.hexd (v % 16)).toNat:Int)) w:=by
    rw[Nat.mod_eq_of_lt (by omega)]
    exact kT .u64 _ v rfl (by omega)
   have hal:Tryz.prog.arrayLen 195=65:=by kernel_rfl
   have hel:Tryz.prog.elem 195=5:=by kernel_rfl
   have hsl:∀W,(Instr.sliceAt 195 (.pointer (some ⟨w.1.size,0,none⟩)) (some (.int .i64 (m:Int))) none none).run Tryz.prog W=.ok (.slice (some ⟨w.1.size,m,none⟩) (65-m) (65-m)) W:=fun W=>by
    rw[run_sliceAt_array_l W 195 ⟨w.1.size,0,none⟩ (by kernel_rfl) .i64 (m:Int) (by omega) (by rw[hal];omega),hal,hel]
    go_simp
    omega
   obtain⟨hlt,hrow⟩:=HI.out.last (by omega) (Hex.hexd (v % 16)) rfl
   have hcell:∀j,j<65-m->(W0.setCell ⟨w.1.size,m,none⟩ (.int .u8 ((Hex.hexd (v % 16)).toNat:Int))).cell? ⟨w.1.size,m+j,none⟩=some (.int .u8 (((Hex.digits u (65-m))[j]?.getD 0).toNat:Int)):=fun j hj=>by
    rw[HS.out,<-hrow j hj]
    have hsz:(dk.setIfInBounds m (Hex.hexd (v % 16))).size=65:=by simp[HI.out.size]
    have:=cell?_putRow (fun(b:UInt8)=>Value.int .u8 (b.toNat:Int)) (w.alloc (.cells Tryz.zeroCells195 195)) w.1.size 0 _ (dk.setIfInBounds m (Hex.hexd (v % 16))) AH.out (by simp[hsz]) (m+j) (by omega)
    rw[Nat.zero_add] at this
    exact this
   have hcv:(convert 79 9 (.slice (some ⟨w.1.size,m,none⟩) (65-m) (65-m))).run Tryz.prog (W0.setCell ⟨w.1.size,m,none⟩ (.int .u8 ((Hex.hexd (v % 16)).toNat:Int)))=.ok (.string ⟨(Hex.digits u (65-m)).toArray⟩) (W0.setCell ⟨w.1.size,m,none⟩ (.int .u8 ((Hex.hexd (v % 16)).toNat:Int))):=by
    have h:=run_convert_bytes_back (P:=Tryz.prog) (W0.setCell ⟨w.1.size,m,none⟩ (.int .u8 ((Hex.hexd (v % 16)).toNat:Int))) 79 9 5 ⟨w.1.size,m,none⟩ (65-m) (Hex.digits u (65-m)) Tryz.underlying79 Tryz.underlying5 Tryz.underlying9 (fun j hj=>by
     rw[Lib.add_plain]
     have hj':j<65-m:=by rw[Hex.digits_length] at hj;exact hj
     rw[hcell j hj',List.getElem?_eq_getElem hj];rfl)
    rw[Hex.digits_length] at h
    exact h
   have hbel:RowKit.Below w.1.size w (W0.setCell ⟨w.1.size,m,none⟩ (.int .u8 ((Hex.hexd (v % 16)).toNat:Int))):=by
    rw[HS.out]
    have h1:RowKit.Below w.1.size w (w.alloc (.cells Tryz.zeroCells195 195)):=tY
    exact below_putRow h1 _
   have HB:=tQ hbel
   have HL:=tQ hlt
   clear hbel hlt hrow hcell hal hel
   go_wp2
   go_ret2
   exact⟨65-m,by omega,by omega,HL.out,rfl,HB.out⟩
end
section
open Go.RowKit
theorem oB{w:World}(h:Tz w):6<w.1.size:=by
 obtain⟨c,e,fr,hb,_⟩:=Sort.cells_of_cell? h
 exact(Array.getElem?_eq_some_iff.1 hb).1
theorem rz{w w':World}(h:Tz w)(hb:Below w.1.size w w'):Tz w':=by
 unfold Tz
 rw[hb.cell (p:=⟨6,15,none⟩) (oB h)]
 exact h
theorem fV(u:Nat)(hu:u<18446744073709551616)(w:World)(hz:Tz w):
  Calls Tryz.prog 172 #[.int .u64 u,.int .i64 16] w fun e w'=>
   ∃k,1<=k∧k<=16∧u<16 ^ k∧e=.returned (.string ⟨(Hex.digits u k).toArray⟩)∧Below w.1.size w w':=by
 have HZ:=tQ hz
 clear hz
 go_enter Tryz.func172,Tryz.ntmps172
 go_wp2_with fail
 refine(ir u hu _ HZ.out (oB HZ.out)).mono ?_
 rintro e w1 ⟨k,h1,h2,h3,rfl,hb⟩
 have H3:=tQ h3
 have HB:=tQ hb
 clear h3 hb
 go_wp2
 go_ret
 exact⟨k,h1,h2,H3.out,rfl,HB.out⟩
theorem ip(u:Nat)(hu:u<18446744073709551616)(w:World)(hz:Tz w):
  Calls Tryz.prog 149 #[.int .u64 u,.int .i64 16] w fun e w'=>
   ∃k,1<=k∧k<=16∧u<16 ^ k∧e=.returned (.string ⟨(Hex.digits u k).toArray⟩)∧Below w.1.size w w':=by
 have HZ:=tQ hz
 clear hz
 go_enter Tryz.func149,Tryz.ntmps149
 go_wp2_with fail
 refine(fV u hu _ HZ.out).mono ?_
 rintro e w1 ⟨k,h1,h2,h3,rfl,hb⟩
 have H3:=tQ h3
 have HB:=tQ hb
 clear h3 hb
 go_wp2
 go_ret
 exact⟨k,h1,h2,H3.out,rfl,HB.out⟩
theorem ni(c:Nat):Lib.repeatL [48] c=List.replicate c 48:=by
 induction c with
 |zero=>rfl
 |succ c ih=>simp[Lib.repeatL,ih,List.replicate_succ]
theorem oe(u c k:Nat)(hc:c+k=16)(h:u<16 ^ k):
  (ByteArray.mk #[120]++ByteArray.mk (Lib.repeatL [48] c).toArray++ByteArray.mk (Hex.digits u k).toArray)=ByteArray.mk (120::Hex.digits u 16).toArray:=by
 rw[show(#[120]:Array UInt8)=([120]:L8).toArray from rfl,ByteArray.mk_append_mk,ByteArray.mk_append_mk,<-hc,Hex.digits_pad h c,ni]
 simp
theorem ij(u:Nat)(hu:u<18446744073709551616)(w:World)(hz:Tz w):
  Calls Tryz.prog 119 #[.int .u64 u] w fun e w'=>e=.returned (.string ⟨(120::Hex.digits u 16).toArray⟩)∧Below w.1.size w w':=by
 have HZ:=tQ hz
 clear hz
 go_enter Tryz.func119,Tryz.ntmps119
 go_wp2_with fail
 refine(ip u hu _ HZ.out).mono ?_
 rintro e w1 ⟨k,h1,h2,h3,rfl,hb⟩
 have H3:=tQ h3
 have HB:=tQ hb
 have hlen:(⟨(Hex.digits u k).toArray⟩:ByteArray).size=k:=by
  show(Hex.digits u k).toArray.size=k
  simp[Hex.digits_length]
 have hlen2:=Hex.digits_length u k
 clear h3 hb
 go_wp2_with fail
 obtain⟨c,hc⟩:∃c:Nat,c+k=16:=⟨16-k,by omega⟩
 have hc2:(16-(k:Int))=(c:Int):=by omega
 rw[hc2]
 refine(Tryz.strings_Repeat ⟨#[48]⟩ c _ (by omega) (by show 1*c<=_;omega)).mono ?_
 rintro e w2 ⟨rfl,hb2⟩
 have HB2:=tQ hb2
 have hrl:(Lib.repeatL [48] c).length=c:=by rw[Lib.repeatL_length];simp
 have hc16:c<=16:=by omega
 have HC:=tQ hc
 clear hb2 hc hc2
 go_wp2
 go_ret
 refine⟨?_,HB.out.trans (HB2.out.mono HB.out.size)⟩
 exact congrArg (fun b=>Ending.returned (Value.string b)) (oe u c k HC.out H3.out)
def text(x:Nat):L8 :=
 if bk x then [110,97,110] else if x=9218868437227405312 then [105,110,102] else if x=18442240474082181120 then [45,105,110,102]
 else if x=9223372036854775808 then [45,48] else if bK x then Lib.itoa (Flt.trunc x) else 120::Hex.digits x 16
theorem qS(x:Nat)(h:bk x=true)(w:World):Calls Tryz.prog 114 #[.float .f64 x] w fun e w'=>e=.returned (.bool true)∧w'=w:=by
 have:=ft x w;rwa [h] at this
theorem ga(x:Nat)(h:bk x=false)(w:World):Calls Tryz.prog 114 #[.float .f64 x] w fun e w'=>e=.returned (.bool false)∧w'=w:=by
 have:=ft x w;rwa [h] at this
theorem gP(x:Nat)(hx:x<18446744073709551616)(h:x≠9218868437227405312)(w:World):Calls Tryz.prog 115 #[.float .f64 x,.int .i64 1] w fun e w'=>e=.returned (.bool false)∧w'=w:=by
 have:=fu x hx w;rwa [beq_eq_false_iff_ne.2 h] at this
theorem kR(x:Nat)(hx:x<18446744073709551616)(h:x≠18442240474082181120)(w:World):Calls Tryz.prog 115 #[.float .f64 x,.int .i64 (-1)] w fun e w'=>e=.returned (.bool false)∧w'=w:=by
 have:=fv x hx w;rwa [beq_eq_false_iff_ne.2 h] at this
theorem nz(x:Nat)(h:bk x=true)(w:World):
  Calls Tryz.prog 73 #[.float .f64 x] w fun e w'=>e=.returned (.string ⟨#[110,97,110]⟩)∧w'=w:=by
 have I1:=tQ (qS x h)
 clear h
 go_enter Tryz.func73,Tryz.ntmps73
 go_wp2_with fail
 refine(I1.out _).mono ?_
 rintro e w' ⟨rfl,rfl⟩
 go_wp2
 go_ret
 exact⟨rfl,rfl⟩
theorem jJ:bk 9218868437227405312=false:=by kernel_rfl
theorem gF:bk 18442240474082181120=false:=by kernel_rfl
theorem jI:bk 9223372036854775808=false:=by kernel_rfl
theorem nA(w:World):
  Calls Tryz.prog 73 #[.float .f64 9218868437227405312] w fun e w'=>e=.returned (.string ⟨#[105,110,102]⟩)∧w'=w:=by
 have I1:=tQ (ga _ jJ)
 have I2:=tQ (fu 9218868437227405312 (by decide))
 go_enter Tryz.func73,Tryz.ntmps73
 go_wp2_with fail
 refine(I1.out _).mono ?_
 rintro e w' ⟨rfl,rfl⟩
 go_wp2_with fail
 refine(I2.out _).mono ?_
 rintro e w' ⟨rfl,rfl⟩
 go_wp2
 go_ret
 exact⟨rfl,rfl⟩
theorem lP(w:World):
  Calls Tryz.prog 73 #[.float .f64 18442240474082181120] w fun e w'=>e=.returned (.string ⟨#[45,105,110,102]⟩)∧w'=w:=by
 have I1:=tQ (ga _ gF)
 have I2:=tQ (gP 18442240474082181120 (by decide) (by decide))
 have I3:=tQ (fv 18442240474082181120 (by decide))
 go_enter Tryz.func73,Tryz.ntmps73
 go_wp2_with fail
 refine(I1.out _).mono ?_
 rintro e w' ⟨rfl,rfl⟩
 go_wp2_with fail
 refine(I2.out _).mono ?_
 rintro e w' ⟨rfl,rfl⟩
 go_wp2_with fail
 refine(I3.out _).mono ?_
 rintro e w' ⟨rfl,rfl⟩
 go_wp2
 go_ret
 exact⟨rfl,rfl⟩
theorem o0(w:World):
  Calls Tryz.prog 73 #[.float .f64 9223372036854775808] w fun e w'=>e=.returned (.string ⟨#[45,48]⟩)∧w'=w:=by
 have I1:=tQ (ga _ jI)
 have I2:=tQ (gP 9223372036854775808 (by decide) (by decide))
 have I3:=tQ (kR 9223372036854775808 (by decide) (by decide))
 have I4:=tQ (pE 9223372036854775808 (by rw[bX jI];rfl))
 go_enter Tryz.func73,Tryz.ntmps73
 go_wp2_with fail
 refine(I1.out _).mono ?_
 rintro e w' ⟨rfl,rfl⟩
 go_wp2_with fail
 refine(I2.out _).mono ?_
 rintro e w' ⟨rfl,rfl⟩
 go_wp2_with fail
 refine(I3.out _).mono ?_
 rintro e w' ⟨rfl,rfl⟩
 go_wp2_with fail
 refine(I4.out _).mono ?_
 rintro e w' ⟨rfl,rfl⟩
 go_wp2
 go_ret
 exact⟨rfl,rfl⟩
theorem qJ{x:Nat}(h:bK x=false):(toE x=10∧toN x=0)∨(toE x=0∧toN x<=-9007199254740992)∨(toE x=0∧-9007199254740992<toN x∧9007199254740992<=toN x):=by
 unfold bK at h
 cases ho:okB x
 ·exact .inl ⟨by simp[toE,ho],by simp[toN,ho]⟩
 ·right
  have e1:toE x=0:=by simp[toE,ho]
  have e2:toN x=Flt.trunc x:=by simp[toN,ho]
  rw[ho] at h
  simp only[Bool.true_and,Bool.and_eq_false_iff,decide_eq_false_iff_not] at h
  rw[e1,e2]
  by_cases h1:-9007199254740992<Flt.trunc x
  ·exact .inr ⟨rfl,h1,by omega⟩
  ·exact .inl ⟨rfl,by omega⟩
theorem nB(x:Nat)(hx:x<18446744073709551616)(h1:bk x=false)(h2:x≠9218868437227405312)(h3:x≠18442240474082181120)(h4:x≠9223372036854775808)(hd:bK x=false)(w:World)(hz:Tz w):
  Calls Tryz.prog 73 #[.float .f64 x] w fun e w'=>e=.returned (.string ⟨(120::Hex.digits x 16).toArray⟩)∧Below w.1.size w w':=by
 have I1:=tQ (ga _ h1)
 have I2:=tQ (gP x hx h2)
 have I3:=tQ (kR x hx h3)
 have I4:=tQ (jL x (by rw[bX h1,beq_eq_false_iff_ne];omega))
 have I5:=tQ (eg x)
 have I6:Hid (∀w,Calls Tryz.prog 120 #[.float .f64 x] w fun e w'=>e=.returned (.int .u64 (x:Int))∧w'=w):=fun w=>by
  have:=cg x w;rwa [bX h1] at this
 have I7:=tQ (fun w hz=>ij x hx w hz)
 have HZ:=tQ hz
 have hn:=qJ hd
 clear h1 h2 h3 h4 hd hz hx
 rcases hn with ⟨n1,n2⟩ | ⟨n1,n2⟩ | ⟨n1,n2,n3⟩
 all_goals
  go_enter Tryz.func73,Tryz.ntmps73
  go_wp2_with fail
  refine(I1.out _).mono ?_
  rintro e w' ⟨rfl,rfl⟩
  go_wp2_with fail
  refine(I2.out _).mono ?_
  rintro e w' ⟨rfl,rfl⟩
  go_wp2_with fail
  refine(I3.out _).mono ?_
  rintro e w' ⟨rfl,rfl⟩
  go_wp2_with fail
  refine(I4.out _).mono ?_
  rintro e w' ⟨rfl,rfl⟩
  go_wp2_with fail
  refine(I5.out _).mono ?_
  rintro e w' ⟨rfl,rfl⟩
  go_wp2_with fail
  refine(I6.out _).mono ?_
  rintro e w' ⟨rfl,rfl⟩
  go_wp2_with fail
  refine(I7.out _ HZ.out).mono ?_
  rintro e w1 ⟨rfl,hb⟩
  have HB:=tQ hb
  clear hb
  go_wp2
  go_ret
  exact⟨rfl,HB.out⟩
theorem eh(x:Nat)(hx:x<18446744073709551616)(w:World)(ht:Tab w)(hz:Tz w):
  Calls Tryz.prog 73 #[.float .f64 x] w fun e w'=>e=.returned (.string ⟨(text x).toArray⟩)∧Below w.1.size w w':=by
 unfold text
 cases h1:bk x
 ·by_cases h2:x=9218868437227405312
  ·subst h2
   refine(nA w).mono ?_
   rintro e w' ⟨rfl,rfl⟩;exact⟨rfl,tZ⟩
  ·by_cases h3:x=18442240474082181120
   ·subst h3
    refine(lP w).mono ?_
    rintro e w' ⟨rfl,rfl⟩;exact⟨rfl,tZ⟩
   ·by_cases h4:x=9223372036854775808
    ·subst h4
     refine(o0 w).mono ?_
     rintro e w' ⟨rfl,rfl⟩;exact⟨rfl,tZ⟩
    ·cases h5:bK x
     ·simp only[h2,h3,h4,Bool.false_eq_true,if_false]
      exact nB x hx h1 h2 h3 h4 h5 w hz
     ·simp only[h2,h3,h4,Bool.false_eq_true,if_false,if_true]
      exact nC x hx h5 w ht
 ·refine(nz x h1 w).mono ?_
  rintro e w' ⟨rfl,rfl⟩;exact⟨rfl,tZ⟩
end
end Go.Proofs.YtllbniljgcgbeaaGreatDoor
