import Derived.Test.YtllbniljgcgbeaaGreatDoorB14
import Derived.Test.YtllbniljgcgbeaaGreatDoorShelf2
import Derived.Shelf.Strconv.ErrVarParseInt
set_option maxRecDepth 100000
set_option maxHeartbeats 32000000
namespace Go.Proofs.YtllbniljgcgbeaaGreatDoor
section
open Go.RowKit
namespace Hex
theorem hexd_small(n:Nat)(h:n<10):(hexd n).toNat=48+n:=by
 have h1:∀m:Fin 10,(hexd m.val).toNat=48+m.val:=by decide
 exact h1 ⟨n,h⟩
theorem hexd_great(n:Nat)(h:10<=n)(h2:n<16):(hexd n).toNat=87+n:=by
 have h1:∀m:Fin 16,10<=m.val->(hexd m.val).toNat=87+m.val:=by decide
 exact h1 ⟨n,h2⟩ h
def Got(bs:L8)(k acc:Nat):Prop:=∀u,u<18446744073709551616->bs=digits u 16->acc=u / 16 ^ (16-k)
theorem Got.start(bs:L8):Got bs 0 0:=fun u hu _=>by
 have e:(16:Nat) ^ (16-0)=18446744073709551616:=by decide
 rw[e];omega
theorem byte_at{bs:L8}{u k:Nat}(h:bs=digits u 16)(hk:k<bs.length):bs[k]=hexd (u / 16 ^ (15-k) % 16)∧k<16:=by
 subst h
 have hk':k<16:=by rw[digits_length] at hk;exact hk
 rw[digits_get]
 exact⟨rfl,hk'⟩
theorem div_step(u k:Nat)(hk:k<16):u / 16 ^ (16-(k+1))=u / 16 ^ (16-k)*16+u / 16 ^ (15-k) % 16:=by
 have e:16-k=(15-k)+1:=by omega
 rw[e,Nat.pow_succ,<-Nat.div_div_eq_div_mul,show 16-(k+1)=15-k by omega]
 omega
theorem div_small(u k:Nat)(hu:u<18446744073709551616)(hk:k<16):u / 16 ^ (16-k)<1152921504606846976:=by
 have h1:(16:Nat) ^ 1<=16 ^ (16-k):=Nat.pow_le_pow_right (by omega) (by omega)
 have h2:u / 16 ^ (16-k)<=u / 16 ^ 1:=Nat.div_le_div_left h1 (by decide)
 have e:(16:Nat) ^ 1=16:=by decide
 rw[e] at h2
 omega
end Hex
theorem ja(c:Int)(w:World):
  Calls Tryz.prog 197 #[.int .u8 c] w fun e w'=>e=.returned (.int .u8 (bits .or .u8 c 32))∧w'=w:=by
 go_enter Tryz.func197,Tryz.ntmps197
 go_wp2
 go_ret
 exact⟨rfl,rfl⟩
def rP(v:Value):Prop:=v=.nilIface∨v=.iface 182 (.int .i64 1)∨v=.iface 182 (.int .i64 2)
theorem tj:∀c:Fin 256,97<=c.val->c.val<=122->bits .or .u8 (c.val:Int) 32=(c.val:Int):=by decide +kernel
theorem qG(c:UInt8)(h1:97<=c.toNat)(h2:c.toNat<=122):bits .or .u8 (c.toNat:Int) 32=(c.toNat:Int):=tj ⟨c.toNat,c.toNat_lt⟩ h1 h2
theorem ti:bits .or .u8 95 32=127:=by kernel_rfl
theorem iv(u:Nat):Hex.digits u 16≠[]:=by
 intro h
 have:=congrArg List.length h
 rw[Hex.digits_length] at this
 simp at this
theorem eX(w:World):
  Calls Tryz.prog 178 #[.string ⟨#[]⟩,.int .i64 16,.int .i64 64] w fun e w'=>e=.returned (.tuple #[.int .u64 0,.iface 182 (.int .i64 2)])∧w'=w:=by
 go_enter Tryz.func178,Tryz.ntmps178
 go_wp2
 go_ret2
 exact⟨rfl,rfl⟩
theorem gQ(t:ByteArray)(hne:t.size≠0)(hmax:t.size<=9223372036854775806)(w:World):
  Calls Tryz.prog 178 #[.string t,.int .i64 16,.int .i64 64] w fun e w'=>
   (∃(v:Int) (er:Value),e=.returned (.tuple #[.int .u64 v,er])∧0<=v∧v<18446744073709551616∧rP er∧(∀u:Nat,u<18446744073709551616->t.data.toList=Hex.digits u 16->v=(u:Int)∧er=.nilIface))∧w'=Lib.bytesWorld w 5 t:=by
 have hemp:t.toList.isEmpty=false:=by
  rw[<-decide_eq_emptyBytes]
  exact decide_eq_false (fun h=>hne (by rw[h];rfl))
 have hcv:=Lib.run_convert_string_bytes (P:=Tryz.prog) w 9 79 5 t (u:=.string) Tryz.underlying9 Tryz.underlying79 Tryz.underlying5
 have hB:∀j,j<t.size->(Lib.bytesWorld w 5 t).cell? ⟨w.1.size,j,none⟩=some (.int .u8 (t.data.toList.getD j 0).toNat):=fun j hj=>Lib.bytesWorld_cell w 5 t j hj
 obtain⟨W1,hW1⟩:∃W1,W1=Lib.bytesWorld w 5 t:=⟨_,rfl⟩
 rw[<-hW1] at hcv hB ⊢
 clear hW1
 obtain⟨bs,hL⟩:∃bs,bs=t.data.toList:=⟨_,rfl⟩
 have hLn:bs.length=t.size:=by rw[hL,Lib.size_eq]
 rw[<-hL] at hB ⊢
 clear hL
 have hmv:IntKind.u64.wrap (IntKind.u64.wrap 18446744073709551616-1)=18446744073709551615:=by
  rw[IntKind.wrap_u64,IntKind.wrap_u64]
  decide
 go_enter Tryz.func178,Tryz.ntmps178
 go_wp2
 go_loop [12,13,101] (fun vu vn vi=>∃(k acc:Nat) (a:Int),vu=.bool false∧vn=.int .u64 a∧vi=.int .i64 k∧k<=t.size∧Hid (a=(acc:Int)∧acc<18446744073709551616∧Hex.Got bs k acc))
  (fun _ _ vi=>t.size-(intOf vi).toNat)
 case atStart=>exact⟨0,0,0,rfl,rfl,rfl,by omega,rfl,by omega,Hex.Got.start bs⟩
 case round=>
  obtain⟨k,acc,a,rfl,rfl,rfl,hk,hh⟩:=hrel
  obtain⟨ha,hacc,hgot⟩:=hh.out
  clear hh
  have a0:0<=a:=by omega
  have a1:a<18446744073709551616:=by omega
  by_cases hkn:k<t.size
  ·have hc:=hB k hkn
   have hget:bs.getD k 0=bs[k]'(by omega):=by simp[List.getD,List.getElem?_eq_getElem (show k<bs.length by omega)]
   have hbyte:∀u,bs=Hex.digits u 16->bs[k]'(by omega)=Hex.hexd (u / 16 ^ (15-k) % 16)∧k<16:=fun u hu=>Hex.byte_at hu (by omega)
   rw[hget] at hc
   generalize bs[k]'(by omega)=c at hc hbyte
   have hc256:c.toNat<256:=c.toNat_lt
   clear hB hget
   by_cases hdig:48<=c.toNat∧c.toNat<=57
   ·obtain⟨hd0,hd1⟩:=hdig
    by_cases hcut:1152921504606846976<=acc
    ·have icut:1152921504606846976<=a:=by omega
     have HX:Hid (∀u:Nat,u<18446744073709551616->bs=Hex.digits u 16->False):=fun u hu hb=>by
      have e1:=hgot u hu hb
      have e2:=Hex.div_small u k hu (hbyte u hb).2
      omega
     clear hcut hacc ha hgot hbyte
     go_wp2
     go_ret2
     exact⟨⟨_,_,rfl,by omega,by omega,.inr (.inl rfl),fun u hu hb=>(HX.out u hu hb).elim⟩,rfl⟩
    ·have HN:Hid (a*16+((c.toNat:Int)-48)=((acc*16+(c.toNat-48):Nat):Int)∧acc*16+(c.toNat-48)<18446744073709551616∧Hex.Got bs (k+1) (acc*16+(c.toNat-48))):=by
      refine⟨by omega,by omega,fun u hu hb=>?_⟩
      obtain⟨e1,e2⟩:=hbyte u hb
      have e3:=hgot u hu hb
      rw[Hex.div_step u k e2,<-e3]
      have e4:u / 16 ^ (15-k) % 16<16:=Nat.mod_lt _ (by omega)
      generalize u / 16 ^ (15-k) % 16=n at e1 e4
      by_cases e5:n<10
      ·have:=Hex.hexd_small n e5
       rw[<-e1] at this;omega
      ·have:=Hex.hexd_great n (by omega) e4
       rw[<-e1] at this;omega
     have icut:a<1152921504606846976:=by omega
     have iov:a*16+((c.toNat:Int)-48)<18446744073709551616:=by omega
     clear hcut hacc ha hgot hbyte
     go_wp2
     refine⟨⟨k+1,acc*16+(c.toNat-48),a*16+((c.toNat:Int)-48),rfl,(by first | rfl | (congr 1;omega)),(by first | rfl | (congr 1;omega)),by omega,HN⟩,by simp[intOf];omega⟩
   ·-- which digit it would be,were the bytes sixteen digits
    have hlet:∀u,bs=Hex.digits u 16->∃n,n=u / 16 ^ (15-k) % 16∧c.toNat=87+n∧10<=n∧n<16∧k<16:=fun u hb=>by
     obtain⟨e1,e2⟩:=hbyte u hb
     have e4:u / 16 ^ (15-k) % 16<16:=Nat.mod_lt _ (by omega)
     refine⟨_,rfl,?_⟩
     generalize u / 16 ^ (15-k) % 16=n at e1 e4
     by_cases e5:n<10
     ·have:=Hex.hexd_small n e5
      rw[<-e1] at this;omega
     ·have:=Hex.hexd_great n (by omega) e4
      rw[<-e1] at this;exact⟨this,by omega,e4,e2⟩
    clear hbyte
    by_cases h95:c.toNat=95
    ·have HX:Hid (∀u:Nat,u<18446744073709551616->bs=Hex.digits u 16->False):=fun u hu hb=>by
      obtain⟨n,_,e1,e2,e3,_⟩:=hlet u hb
      omega
     rw[h95] at hc
     have h127:=ti
     clear hlet hgot hacc ha hdig hc256 h95
     go_wp2_with (go_at_call 197;refine(ja _ _).mono ?_;rintro e w' ⟨rfl,rfl⟩)
     go_ret2
     exact⟨⟨_,_,rfl,by omega,by omega,.inr (.inr rfl),fun u hu hb=>(HX.out u hu hb).elim⟩,rfl⟩
    ·have b95:((c.toNat:Int)==95)=false:=by rw[beq_eq_false_iff_ne];omega
     have hv0:=bits_lo_u8 .or (c.toNat:Int) 32
     have hv1:=bits_hi_u8 .or (c.toNat:Int) 32
     have hvl:97<=c.toNat->c.toNat<=122->bits .or .u8 (c.toNat:Int) 32=(c.toNat:Int):=qG c
     have IL:=tQ (fun w=>ja (c.toNat:Int) w)
     generalize bits .or .u8 (c.toNat:Int) 32=l at hv0 hv1 hvl IL
     by_cases hlh:97<=l∧l<=102
     ·obtain⟨hl0,hl1⟩:=hlh
      by_cases hcut:1152921504606846976<=acc
      ·have icut:1152921504606846976<=a:=by omega
       have HX:Hid (∀u:Nat,u<18446744073709551616->bs=Hex.digits u 16->False):=fun u hu hb=>by
        obtain⟨n,_,e1,e2,e3,e4⟩:=hlet u hb
        have e5:=hgot u hu hb
        have e6:=Hex.div_small u k hu e4
        omega
       clear hcut hacc ha hgot hlet hvl hv0 hv1 h95
       go_wp2_with (go_at_call 197;refine(IL.out _).mono ?_;rintro e w' ⟨rfl,rfl⟩)
       all_goals go_ret2
       all_goals exact⟨⟨_,_,rfl,by omega,by omega,.inr (.inl rfl),fun u hu hb=>(HX.out u hu hb).elim⟩,rfl⟩
      ·have HN:Hid (a*16+(l-97+10)=((acc*16+(l.toNat-87):Nat):Int)∧acc*16+(l.toNat-87)<18446744073709551616∧Hex.Got bs (k+1) (acc*16+(l.toNat-87))):=by
        refine⟨by omega,by omega,fun u hu hb=>?_⟩
        obtain⟨n,e0,e1,e2,e3,e4⟩:=hlet u hb
        have e5:=hgot u hu hb
        have e6:=hvl (by omega) (by omega)
        rw[Hex.div_step u k e4,<-e5,<-e0]
        omega
       have icut:a<1152921504606846976:=by omega
       have iov:a*16+(l-97+10)<18446744073709551616:=by omega
       clear hcut hacc ha hgot hlet hvl hv0 hv1 h95
       go_wp2_with (go_at_call 197;refine(IL.out _).mono ?_;rintro e w' ⟨rfl,rfl⟩)
       all_goals refine⟨⟨k+1,acc*16+(l.toNat-87),a*16+(l-97+10),rfl,(by first | rfl | (congr 1;omega)),(by first | rfl | (congr 1;omega)),by omega,HN⟩,by simp[intOf];omega⟩
     ·have HX:Hid (∀u:Nat,u<18446744073709551616->bs=Hex.digits u 16->False):=fun u hu hb=>by
       obtain⟨n,_,e1,e2,e3,_⟩:=hlet u hb
       have e6:=hvl (by omega) (by omega)
       omega
      clear hlet hgot hacc ha hvl h95
      go_wp2_with (go_at_call 197;refine(IL.out _).mono ?_;rintro e w' ⟨rfl,rfl⟩)
      all_goals go_ret2
      all_goals exact⟨⟨_,_,rfl,by omega,by omega,.inr (.inr rfl),fun u hu hb=>(HX.out u hu hb).elim⟩,rfl⟩
  ·have hkk:k=t.size:=by omega
   subst hkk
   have HX:Hid (∀u:Nat,u<18446744073709551616->bs=Hex.digits u 16->(acc:Int)=(u:Int)):=fun u hu hb=>by
    have e1:=hgot u hu hb
    have e2:t.size=16:=by rw[<-hLn,hb,Hex.digits_length]
    rw[e2] at e1
    simp at e1
    omega
   subst ha
   clear hacc hgot hB
   go_wp2
   go_ret2
   exact⟨⟨_,_,rfl,by omega,by omega,.inl rfl,fun u hu hb=>⟨HX.out u hu hb,rfl⟩⟩,rfl⟩
end
section
open Go.RowKit
def Sen(w : World): Prop := (∃tp p, w.var? Tryz.prog "strconv.ErrSyntax"=some #[.iface tp p])∧(∃tq q, w.var? Tryz.prog "strconv.ErrRange"=some #[.iface tq q])
theorem qZ: Tryz.prog.globalNamed "strconv.ErrSyntax"=some 3 := by kernel_rfl
theorem rb: Tryz.prog.globalNamed "strconv.ErrRange"=some 4 := by kernel_rfl
theorem oL{w w':World}(h:Sen w)(hb:Below w.1.size w w'):Sen w':=by
 obtain⟨⟨tp,p,h1⟩,⟨tq,q,h2⟩⟩:=h
 exact⟨⟨tp,p,Joins.var_stays qZ h1 hb tX⟩,⟨tq,q,Joins.var_stays rb h2 hb tX⟩⟩
def qh(v:Value):Prop:=v=.nilIface∨∃N,v=.iface 185 (.pointer (some ⟨N,0,none⟩))
theorem fF(fn s:ByteArray)(base bits:Int)(er:Value)(he:er=.iface 182 (.int .i64 1)∨er=.iface 182 (.int .i64 2))(w:World)(hlim:s.size<=281474976710656)(hs:Sen w):
  Calls Tryz.prog 164 #[.string fn,.string s,.int .i64 base,.int .i64 bits,er] w fun e w'=>∃N,e=.returned (.iface 185 (.pointer (some ⟨N,0,none⟩)))∧Below w.1.size w w':=by
 obtain⟨⟨tp,p,h1⟩,⟨tq,q,h2⟩⟩:=hs
 rcases he with rfl | rfl
 ·have hv:w.cell? ⟨4,0,none⟩=some (.iface tq q):=by
   have:=World.var?_cell rb h2 0
   simpa using this
  refine(Tryz.strconv_toError_range fn s base bits (.iface tq q) w hlim hv (.inr ⟨tq,q,rfl⟩)).mono ?_
  rintro e w' ⟨N,rfl,_,_,hb⟩
  exact⟨N,rfl,hb⟩
 ·have hv:w.cell? ⟨3,0,none⟩=some (.iface tp p):=by
   have:=World.var?_cell qZ h1 0
   simpa using this
  refine(Tryz.strconv_toError_syntax fn s base bits (.iface tp p) w hlim hv (.inr ⟨tp,p,rfl⟩)).mono ?_
  rintro e w' ⟨N,rfl,_,_,hb⟩
  exact⟨N,rfl,hb⟩
theorem fU(t:ByteArray)(hmax:t.size<=9223372036854775806)(w:World):
  Calls Tryz.prog 178 #[.string t,.int .i64 16,.int .i64 64] w fun e w'=>
   ∃(v:Int) (er:Value),e=.returned (.tuple #[.int .u64 v,er])∧0<=v∧v<18446744073709551616∧rP er∧(∀u:Nat,u<18446744073709551616->t.data.toList=Hex.digits u 16->v=(u:Int)∧er=.nilIface)∧Below w.1.size w w':=by
 by_cases h0:t.size=0
 ·have ht:t=⟨#[]⟩:=by
   obtain⟨⟨l⟩⟩:=t
   cases l with
   |nil=>rfl
   |cons _ _=>simp[ByteArray.size] at h0
  subst ht
  refine(eX w).mono ?_
  rintro e w' ⟨rfl,rfl⟩
  exact⟨0,_,rfl,by omega,by omega,.inr (.inr rfl),fun u _ hb=>absurd hb.symm (iv u),tZ⟩
 ·refine(gQ t h0 hmax w).mono ?_
  rintro e w' ⟨⟨v,er,rfl,h1,h2,h3,h4⟩,rfl⟩
  exact⟨v,er,rfl,h1,h2,h3,h4,Lib.bytesWorld_below w 5 t⟩
theorem jE(t:ByteArray)(hlim:t.size<=281474976710656)(w:World)(hs:Sen w):
  Calls Tryz.prog 186 #[.string t,.int .i64 16,.int .i64 64] w fun e w'=>
   ∃(v:Int) (er:Value),e=.returned (.tuple #[.int .u64 v,er])∧0<=v∧v<18446744073709551616∧qh er∧(∀u:Nat,u<18446744073709551616->t.data.toList=Hex.digits u 16->v=(u:Int)∧er=.nilIface)∧Below w.1.size w w':=by
 have HS:=tQ hs
 have HL:=tQ hlim
 have II:=tQ (fU t (by omega))
 clear hs hlim
 go_enter Tryz.func186,Tryz.ntmps186
 go_wp2_with fail
 refine(II.out _).mono ?_
 rintro e w1 ⟨v,er,rfl,h1,h2,h3,h4,hb⟩
 have HB:=tQ hb
 clear hb
 rcases h3 with rfl | rfl | rfl
 ·have H4:Hid (∀u:Nat,u<18446744073709551616->t.data.toList=Hex.digits u 16->v=(u:Int)):=fun u hu hb=>(h4 u hu hb).1
  clear h4
  go_wp2
  go_ret2
  exact⟨v,_,rfl,h1,h2,.inl rfl,fun u hu hb=>⟨H4.out u hu hb,rfl⟩,HB.out⟩
 ·have H4:Hid (∀u:Nat,u<18446744073709551616->t.data.toList=Hex.digits u 16->False):=fun u hu hb=>by
   have:=(h4 u hu hb).2
   cases this
  clear h4
  go_wp2_with fail
  refine(fF _ _ _ _ _ (.inl rfl) _ HL.out (oL HS.out HB.out)).mono ?_
  rintro e w2 ⟨N,rfl,hb2⟩
  have HB2:=tQ hb2
  clear hb2
  go_wp2
  go_ret2
  exact⟨v,_,rfl,h1,h2,.inr ⟨N,rfl⟩,fun u hu hb=>(H4.out u hu hb).elim,HB.out.trans (HB2.out.mono HB.out.size)⟩
 ·have H4:Hid (∀u:Nat,u<18446744073709551616->t.data.toList=Hex.digits u 16->False):=fun u hu hb=>by
   have:=(h4 u hu hb).2
   cases this
  clear h4
  go_wp2_with fail
  refine(fF _ _ _ _ _ (.inr rfl) _ HL.out (oL HS.out HB.out)).mono ?_
  rintro e w2 ⟨N,rfl,hb2⟩
  have HB2:=tQ hb2
  clear hb2
  go_wp2
  go_ret2
  exact⟨v,_,rfl,h1,h2,.inr ⟨N,rfl⟩,fun u hu hb=>(H4.out u hu hb).elim,HB.out.trans (HB2.out.mono HB.out.size)⟩
theorem jF(s:ByteArray)(hlim:s.size<=281474976710656)(w:World)(hs:Sen w):
  Calls Tryz.prog 139 #[.string s,.int .i64 10,.int .i64 64] w fun e w'=>
   ∃(v:Int) (er:Value),e=.returned (.tuple #[.int .i64 v,er])∧qh er∧(∀n:Int,Lib.parseIntB 64 s.data.toList=.ok n->v=n∧er=.nilIface)∧Below w.1.size w w':=by
 obtain⟨⟨tp,p,h1⟩,⟨tq,q,h2⟩⟩:=hs
 cases h:Lib.parseIntB 64 s.data.toList
 ·rename_i n
  refine(Tryz.strconv_ParseInt_10_at64_ok s (by omega) n h w).mono ?_
  rintro e w' ⟨rfl,hg⟩
  refine⟨n,_,rfl,.inl rfl,fun m hm=>⟨by cases hm;rfl,rfl⟩,?_⟩
  rcases hg with rfl | ⟨t,rfl⟩
  ·exact tZ
  ·exact Lib.bytesWorld_below w 5 t
 ·have c:Calls Tryz.prog 139 #[.string s,.int .i64 10,.int .i64 64] w fun e w'=>∃N,e=.returned (.tuple #[.int .i64 (0),.iface 185 (.pointer (some ⟨N,0,none⟩))])∧w.1.size<=N∧w'.1[N]?=some (.cells #[.string ⟨#[80,97,114,115,101,73,110,116]⟩,.string s,.iface tp p] 203 (0,0))∧Below w.1.size w w':=Any.strconv_ParseInt_10_at64_syntax_var Tryz.laysC174 s hlim h tp p w h1
  refine c.mono ?_
  rintro e w' ⟨N,rfl,_,_,hb⟩
  exact⟨0,_,rfl,.inr ⟨N,rfl⟩,(fun m hm=>by cases hm),hb⟩
 ·have c:Calls Tryz.prog 139 #[.string s,.int .i64 10,.int .i64 64] w fun e w'=>∃N,e=.returned (.tuple #[.int .i64 (Lib.intSat 64 s.data.toList),.iface 185 (.pointer (some ⟨N,0,none⟩))])∧w.1.size<=N∧w'.1[N]?=some (.cells #[.string ⟨#[80,97,114,115,101,73,110,116]⟩,.string s,.iface tq q] 203 (0,0))∧Below w.1.size w w':=Any.strconv_ParseInt_10_at64_range_var Tryz.laysC174 s hlim h tq q w h2
  refine c.mono ?_
  rintro e w' ⟨N,rfl,_,_,hb⟩
  exact⟨_,_,rfl,.inr ⟨N,rfl⟩,(fun m hm=>by cases hm),hb⟩
end
section
open Go.RowKit
namespace Txt
theorem dig_byte(d:Nat)(h:d<10):(UInt8.ofNat (48+d)).toNat=48+d:=by
 have h1:∀m:Fin 10,(UInt8.ofNat (48+m.val)).toNat=48+m.val:=by decide
 exact h1 ⟨d,h⟩
theorem parse_digits(M:Nat)(hM:M<=18446744073709551615)(u:Nat):∀r,u<=M->Lib.parseUintM M 0 (Lib.decDigits u++r)=Lib.parseUintM M u r:=by
 induction u using Nat.strongRecOn with
 |ind u ih=>
  intro r hu
  rw[Lib.decDigits]
  by_cases h:u<10
  ·rw[dif_pos h]
   simp only[List.cons_append,List.nil_append,Lib.parseUintM,dig_byte u h]
   rw[if_pos (by omega),if_neg (by omega),if_neg (by omega)]
   congr 1;omega
  ·rw[dif_neg h,List.append_assoc,ih (u / 10) (by omega) _ (by omega)]
   simp only[List.cons_append,List.nil_append,Lib.parseUintM,dig_byte (u % 10) (by omega)]
   rw[if_pos (by omega),if_neg (by omega),if_neg (by omega)]
   congr 1;omega
theorem dec_cons(u:Nat):∃c r,Lib.decDigits u=c::r∧48<=c.toNat∧c.toNat<=57:=by
 induction u using Nat.strongRecOn with
 |ind u ih=>
  rw[Lib.decDigits]
  by_cases h:u<10
  ·rw[dif_pos h]
   exact⟨_,_,rfl,by rw[dig_byte u h];omega,by rw[dig_byte u h];omega⟩
  ·rw[dif_neg h]
   obtain⟨c,r,e,h1,h2⟩:=ih (u / 10) (by omega)
   rw[e]
   exact⟨c,_,rfl,h1,h2⟩
theorem parseB_digits(u:Nat)(h:u<=18446744073709551615):Lib.parseUintB 64 (Lib.decDigits u)=.ok u:=by
 have e64:(2:Nat) ^ 64-1=18446744073709551615:=by decide
 obtain⟨c,r,e,_,_⟩:=dec_cons u
 have hp:=parse_digits 18446744073709551615 (by omega) u [] (by omega)
 rw[List.append_nil] at hp
 unfold Lib.parseUintB
 rw[if_neg (by rw[e];simp),e64,hp]
 rfl
theorem parse_itoa(n:Int)(h0:-9007199254740992<n)(h1:n<9007199254740992):Lib.parseIntB 64 (Lib.itoa n)=.ok n:=by
 have e63:(2:Nat) ^ (64-1)=9223372036854775808:=by decide
 by_cases hn:n<0
 ·obtain⟨u,rfl⟩:∃u:Nat,n=-(u:Int):=⟨n.natAbs,by omega⟩
  rw[Lib.itoa_neg u (by omega)]
  have h45:(45:UInt8).toNat=45:=by decide
  have hU:=parseB_digits u (by omega)
  have c1:¬9223372036854775808<u:=by omega
  simp only[Lib.parseIntB,e63,h45]
  simp[hU,c1]
 ·obtain⟨u,rfl⟩:∃u:Nat,n=(u:Int):=⟨n.toNat,by omega⟩
  rw[Lib.itoa_nonneg]
  have hU:=parseB_digits u (by omega)
  obtain⟨c,r,e,c1,c2⟩:=dec_cons u
  rw[e] at hU ⊢
  have n1:¬c.toNat=43:=by omega
  have n2:¬c.toNat=45:=by omega
  have hi:(if c.toNat=43∨c.toNat=45 then r else c::r)=c::r:=by rw[if_neg (by omega)]
  simp only[Lib.parseIntB,hi,hU,e63]
  have c3:¬9223372036854775808<=u:=by omega
  simp[n2,c3]
theorem itoa_head(n:Int):(∃c r,Lib.itoa n=c::r∧48<=c.toNat∧c.toNat<=57)∨(∃c r,Lib.itoa n=45::c::r∧48<=c.toNat∧c.toNat<=57):=by
 by_cases hn:n<0
 ·obtain⟨u,rfl⟩:∃u:Nat,n=-(u:Int):=⟨n.natAbs,by omega⟩
  rw[Lib.itoa_neg u (by omega)]
  obtain⟨c,r,e,c1,c2⟩:=dec_cons u
  rw[e]
  exact .inr ⟨c,r,rfl,c1,c2⟩
 ·obtain⟨u,rfl⟩:∃u:Nat,n=(u:Int):=⟨n.toNat,by omega⟩
  rw[Lib.itoa_nonneg]
  obtain⟨c,r,e,c1,c2⟩:=dec_cons u
  exact .inl ⟨c,r,e,c1,c2⟩
theorem dec_zero{u:Nat}{r:L8}(h:Lib.decDigits u=48::r):u=0:=by
 induction u using Nat.strongRecOn generalizing r with
 |ind u ih=>
  rw[Lib.decDigits] at h
  by_cases h1:u<10
  ·rw[dif_pos h1] at h
   have:=congrArg (fun l=>(l.head?.getD 0).toNat) h
   simp only[List.head?_cons,Option.getD_some,dig_byte u h1] at this
   have e:(48:UInt8).toNat=48:=by decide
   rw[e] at this;omega
  ·rw[dif_neg h1] at h
   obtain⟨c,q,e,_,_⟩:=dec_cons (u / 10)
   rw[e] at h
   have hc:c=48:=by
    have:=congrArg (fun l=>l.head?.getD 0) h
    simpa using this
   have:=ih (u / 10) (by omega) (r:=q) (by rw[e,hc])
   omega
theorem itoa_words(n:Int):Lib.itoa n≠[110,97,110]∧Lib.itoa n≠[105,110,102]∧Lib.itoa n≠[45,105,110,102]∧Lib.itoa n≠[45,48]∧(∀r,Lib.itoa n≠120::r):=by
 refine⟨?_,?_,?_,?_,?_⟩
 ·intro h
  rcases itoa_head n with ⟨c,r,e,c1,c2⟩ | ⟨c,r,e,c1,c2⟩ <;> rw[e] at h <;> simp at h
  have:=h.1;subst this;revert c2;decide
 ·intro h
  rcases itoa_head n with ⟨c,r,e,c1,c2⟩ | ⟨c,r,e,c1,c2⟩ <;> rw[e] at h <;> simp at h
  have:=h.1;subst this;revert c2;decide
 ·intro h
  rcases itoa_head n with ⟨c,r,e,c1,c2⟩ | ⟨c,r,e,c1,c2⟩ <;> rw[e] at h <;> simp at h
  ·have:=h.1;subst this;revert c1;decide
  ·have:=h.1;subst this;revert c2;decide
 ·intro h
  by_cases hn:n<0
  ·obtain⟨u,rfl⟩:∃u:Nat,n=-(u:Int):=⟨n.natAbs,by omega⟩
   rw[Lib.itoa_neg u (by omega)] at h
   have:=dec_zero (u:=u) (r:=[]) (by simpa using h)
   omega
  ·obtain⟨u,rfl⟩:∃u:Nat,n=(u:Int):=⟨n.toNat,by omega⟩
   rw[Lib.itoa_nonneg] at h
   obtain⟨c,r,e,c1,c2⟩:=dec_cons u
   rw[e] at h
   simp at h
   have:=h.1;subst this;revert c1;decide
 ·intro q h
  rcases itoa_head n with ⟨c,r,e,c1,c2⟩ | ⟨c,r,e,c1,c2⟩ <;> rw[e] at h <;> simp at h
  have:=h.1;subst this;revert c2;decide
end Txt
theorem bd(z:Nat):(text z=[110,97,110]∧ak z=9221120237041090560)∨(text z=[105,110,102]∧ak z=9218868437227405312)∨(text z=[45,105,110,102]∧ak z=18442240474082181120)∨(text z=[45,48]∧ak z=9223372036854775808) ∨
  (text z=Lib.itoa (Flt.trunc z)∧bK z=true∧ak z=z)∨(text z=120::Hex.digits z 16∧ak z=z):=by
 unfold text
 cases h1:bk z
 ·have hf:=bX h1
  by_cases h2:z=9218868437227405312
  ·subst h2;exact .inr (.inl ⟨rfl,hf⟩)
  ·by_cases h3:z=18442240474082181120
   ·subst h3;exact .inr (.inr (.inl ⟨rfl,hf⟩))
   ·by_cases h4:z=9223372036854775808
    ·subst h4;exact .inr (.inr (.inr (.inl ⟨rfl,hf⟩)))
    ·cases h5:bK z
     ·exact .inr (.inr (.inr (.inr (.inr ⟨by simp[h2,h3,h4],hf⟩))))
     ·exact .inr (.inr (.inr (.inr (.inl ⟨by simp[h2,h3,h4],rfl,hf⟩))))
 ·exact .inl ⟨rfl,fL h1⟩
theorem eN(z:Nat):text (ak z)=text z:=by
 cases h:bk z
 ·rw[bX h]
 ·rw[fL h]
  unfold text
  rw[h,show bk 9221120237041090560=true by kernel_rfl]
  rfl
theorem cI{z:Nat}(hz:z<18446744073709551616)(h:bK z=true):floatOfInt .f64 (Flt.trunc z)=z:=by
 unfold bK okB at h
 simp only[Bool.and_eq_true,Bool.not_eq_true',decide_eq_true_eq] at h
 obtain⟨⟨⟨⟨hr,hm⟩,hw⟩,_⟩,_⟩:=h
 have hf:=Flt.inR_fin hr
 have hn:bk z=false:=by
  have h3:bk z=decide (9218868437227405312<Flt.rung z):=Flt.nan_iff z
  rw[h3];simp;omega
 rw[bX hn,beq_eq_false_iff_ne] at hm
 exact Flt.back_exact hz hf hw (by omega)
end
section
open Go.RowKit
theorem gi{z:Nat}(h:text z=[110,97,110]):ak z=9221120237041090560:=by
 rcases bd z with ⟨e,f⟩ | ⟨e,f⟩ | ⟨e,f⟩ | ⟨e,f⟩ | ⟨e,_,f⟩ | ⟨e,f⟩
 ·exact f
 ·rw[e] at h;simp at h
 ·rw[e] at h;simp at h
 ·rw[e] at h;simp at h
 ·rw[e] at h;exact absurd h (Txt.itoa_words _).1
 ·rw[e] at h;simp at h
theorem gj{z:Nat}(h:text z=[105,110,102]):ak z=9218868437227405312:=by
 rcases bd z with ⟨e,f⟩ | ⟨e,f⟩ | ⟨e,f⟩ | ⟨e,f⟩ | ⟨e,_,f⟩ | ⟨e,f⟩
 ·rw[e] at h;simp at h
 ·exact f
 ·rw[e] at h;simp at h
 ·rw[e] at h;simp at h
 ·rw[e] at h;exact absurd h (Txt.itoa_words _).2.1
 ·rw[e] at h;simp at h
theorem fj{z:Nat}(h:text z=[45,105,110,102]):ak z=18442240474082181120:=by
 rcases bd z with ⟨e,f⟩ | ⟨e,f⟩ | ⟨e,f⟩ | ⟨e,f⟩ | ⟨e,_,f⟩ | ⟨e,f⟩
 ·rw[e] at h;simp at h
 ·rw[e] at h;simp at h
 ·exact f
 ·rw[e] at h;simp at h
 ·rw[e] at h;exact absurd h (Txt.itoa_words _).2.2.1
 ·rw[e] at h;simp at h
theorem jp{z:Nat}(h:text z=[45,48]):ak z=9223372036854775808:=by
 rcases bd z with ⟨e,f⟩ | ⟨e,f⟩ | ⟨e,f⟩ | ⟨e,f⟩ | ⟨e,_,f⟩ | ⟨e,f⟩
 ·rw[e] at h;simp at h
 ·rw[e] at h;simp at h
 ·rw[e] at h;simp at h
 ·exact f
 ·rw[e] at h;exact absurd h (Txt.itoa_words _).2.2.2.1
 ·rw[e] at h;simp at h
theorem gh{z:Nat}{r:L8}(h:text z=120::r):r=Hex.digits z 16∧ak z=z:=by
 rcases bd z with ⟨e,f⟩ | ⟨e,f⟩ | ⟨e,f⟩ | ⟨e,f⟩ | ⟨e,_,f⟩ | ⟨e,f⟩
 ·rw[e] at h;simp at h
 ·rw[e] at h;simp at h
 ·rw[e] at h;simp at h
 ·rw[e] at h;simp at h
 ·rw[e] at h;exact absurd h ((Txt.itoa_words _).2.2.2.2 r)
 ·rw[e] at h;simp at h;exact⟨h.symm,f⟩
theorem gk{z:Nat}{l:L8}(h:l=text z)(h1:l≠[110,97,110])(h2:l≠[105,110,102])(h3:l≠[45,105,110,102])(h4:l≠[45,48])(h5:∀r,l≠120::r):
  l=Lib.itoa (Flt.trunc z)∧bK z=true∧ak z=z:=by
 rcases bd z with ⟨e,f⟩ | ⟨e,f⟩ | ⟨e,f⟩ | ⟨e,f⟩ | ⟨e,d,f⟩ | ⟨e,f⟩
 ·exact absurd (h.trans e) h1
 ·exact absurd (h.trans e) h2
 ·exact absurd (h.trans e) h3
 ·exact absurd (h.trans e) h4
 ·exact⟨h.trans e,d,f⟩
 ·exact absurd (h.trans e) (h5 _)
theorem qT(w:World):Calls Tryz.prog 184 #[.int .i64 1] w fun e w'=>e=.returned (.float .f64 9218868437227405312)∧w'=w:=by
 have hr:=fun x w=>bI x w
 go_enter Tryz.func184,Tryz.ntmps184
 go_wp2
 go_ret
 exact⟨rfl,rfl⟩
theorem qU(w:World):Calls Tryz.prog 184 #[.int .i64 (-1)] w fun e w'=>e=.returned (.float .f64 18442240474082181120)∧w'=w:=by
 have hr:=fun x w=>bI x w
 go_enter Tryz.func184,Tryz.ntmps184
 go_wp2
 go_ret
 exact⟨rfl,rfl⟩
theorem rW(w:World):Calls Tryz.prog 183 #[.int .u64 9221120237041090560] w fun e w'=>e=.returned (.float .f64 9221120237041090560)∧w'=w:=by
 have:=dl 9221120237041090560 w
 rwa [show ak (9221120237041090560:Int).toNat=9221120237041090560 by kernel_rfl] at this
theorem sE(w:World):Calls Tryz.prog 183 #[.int .u64 9223372036854775808] w fun e w'=>e=.returned (.float .f64 9223372036854775808)∧w'=w:=by
 have:=dl 9223372036854775808 w
 rwa [show ak (9223372036854775808:Int).toNat=9223372036854775808 by kernel_rfl] at this
theorem nU(w:World):Calls Tryz.prog 165 #[.string ⟨#[110,97,110]⟩] w fun e w'=>e=.returned (.tuple #[.float .f64 9221120237041090560,.bool true])∧w'=w:=by
 go_enter Tryz.func165,Tryz.ntmps165
 go_wp2_with (go_at_call 183;refine(rW _).mono ?_;rintro e w' ⟨rfl,rfl⟩)
 go_ret2
 exact⟨rfl,rfl⟩
theorem nV(w:World):Calls Tryz.prog 165 #[.string ⟨#[105,110,102]⟩] w fun e w'=>e=.returned (.tuple #[.float .f64 9218868437227405312,.bool true])∧w'=w:=by
 go_enter Tryz.func165,Tryz.ntmps165
 go_wp2_with (go_at_call 184;refine(qT _).mono ?_;rintro e w' ⟨rfl,rfl⟩)
 go_ret2
 exact⟨rfl,rfl⟩
theorem l5(w:World):Calls Tryz.prog 165 #[.string ⟨#[45,105,110,102]⟩] w fun e w'=>e=.returned (.tuple #[.float .f64 18442240474082181120,.bool true])∧w'=w:=by
 go_enter Tryz.func165,Tryz.ntmps165
 go_wp2_with (go_at_call 184;refine(qU _).mono ?_;rintro e w' ⟨rfl,rfl⟩)
 go_ret2
 exact⟨rfl,rfl⟩
theorem pN(w:World):Calls Tryz.prog 165 #[.string ⟨#[45,48]⟩] w fun e w'=>e=.returned (.tuple #[.float .f64 9223372036854775808,.bool true])∧w'=w:=by
 go_enter Tryz.func165,Tryz.ntmps165
 go_wp2_with (go_at_call 183;refine(sE _).mono ?_;rintro e w' ⟨rfl,rfl⟩)
 go_ret2
 exact⟨rfl,rfl⟩
theorem fb{s:ByteArray}{l:L8}(h:s.data.toList=l):s=⟨l.toArray⟩:=by
 obtain⟨⟨q⟩⟩:=s
 subst h;rfl
theorem aU{s:ByteArray}{l:L8}(h:s.data.toList≠l):(s.toList==l)=false:=by
 rw[Lib.toList_data,beq_eq_false_iff_ne];exact h
theorem pO{x:Nat}(h:x<18446744073709551616):ak x<18446744073709551616:=by
 cases hn:bk x
 ·rw[bX hn];exact h
 ·rw[fL hn];omega
theorem dL(n:Int):floatOfInt .f64 n<18446744073709551616:=by
 have:=floatOfInt_wf .f64 n
 simp only[Lit.wf,decide_eq_true_eq] at this
 exact this
theorem bz{z:Nat}(h:bK z=true):-9007199254740992<Flt.trunc z∧Flt.trunc z<9007199254740992:=by
 obtain⟨_,_,_,_,_,_,h7,h8⟩:=eI h
 exact⟨h7,h8⟩
theorem qY(s:ByteArray)(r:L8)(hsr:s.data.toList=120::r)(hlim:s.size<=281474976710656)(w:World)(hs:Sen w):
  Calls Tryz.prog 165 #[.string s] w fun e w'=>∃(x:Nat) (ok:Bool),e=.returned (.tuple #[.float .f64 x,.bool ok])∧x<18446744073709551616∧(∀z,z<18446744073709551616->s.data.toList=text z->x=ak z∧ok=true)∧Below w.1.size w w':=by
 have q1:=aU (s:=s) (l:=[110,97,110]) (by rw[hsr];simp)
 have q2:=aU (s:=s) (l:=[105,110,102]) (by rw[hsr];simp)
 have q3:=aU (s:=s) (l:=[45,105,110,102]) (by rw[hsr];simp)
 have q4:=aU (s:=s) (l:=[45,48]) (by rw[hsr];simp)
 have hcut:Hid (∀w,Calls Tryz.prog 185 #[.string s,.string ⟨#[120]⟩] w fun e w'=>e=.returned (.tuple #[.string ⟨r.toArray⟩,.bool true])∧w'=w):=fun w=>by
  have:=Tryz.strings_CutPrefix s ⟨#[120]⟩ w
  have e1:Lib.hasPrefix s.data.toList [120]=true:=by rw[hsr];rfl
  have e2:Lib.trimPrefix s.data.toList [120]=r:=by unfold Lib.trimPrefix;rw[e1,hsr];rfl
  have e3:(⟨#[120]⟩:ByteArray).data.toList=[120]:=rfl
  rw[e3,e1,e2] at this
  exact this
 have hrl:r.length<=281474976710656:=by
  have:=Lib.size_eq s
  rw[hsr] at this
  simp at this;omega
 have IP:=tQ (jE ⟨r.toArray⟩ (by show r.toArray.size<=_;simpa using hrl))
 have HS:=tQ hs
 have HR:=tQ hsr
 clear hs hsr hlim hrl
 go_enter Tryz.func165,Tryz.ntmps165
 go_wp2_with fail
 refine(hcut.out _).mono ?_
 rintro e w' ⟨rfl,rfl⟩
 go_wp2_with fail
 refine(IP.out _ HS.out).mono ?_
 rintro e w1 ⟨v,er,rfl,h1,h2,h3,h4,hb⟩
 obtain⟨u,rfl⟩:∃u:Nat,v=(u:Int):=⟨v.toNat,by omega⟩
 have HB:=tQ hb
 have HL:Hid (ak u<18446744073709551616):=pO (by omega)
 rcases h3 with rfl | ⟨N,rfl⟩
 ·have HF:Hid (∀z,z<18446744073709551616->s.data.toList=text z->ak u=ak z):=fun z hz ht=>by
   rw[HR.out] at ht
   obtain⟨e1,e2⟩:=gh ht.symm
   have:=(h4 z hz (by simpa using e1)).1
   have e3:u=z:=by omega
   rw[e3]
  clear h4 h1 h2 hb
  go_wp2
  go_quiet ((go_at_call 183;exact Calls.quiet_of_same (dl _ _)))
  go_wp2
  go_ret2
  exact⟨_,_,rfl,HL.out,fun z hz ht=>⟨HF.out z hz ht,rfl⟩,below_drewN HB.out _⟩
 ·have HF:Hid (∀z,z<18446744073709551616->s.data.toList=text z->False):=fun z hz ht=>by
   rw[HR.out] at ht
   obtain⟨e1,e2⟩:=gh ht.symm
   have:=(h4 z hz (by simpa using e1)).2
   cases this
  clear h4 h1 h2 hb
  go_wp2
  go_quiet ((go_at_call 183;exact Calls.quiet_of_same (dl _ _)))
  go_wp2
  go_ret2
  exact⟨_,_,rfl,HL.out,fun z hz ht=>(HF.out z hz ht).elim,below_drewN HB.out _⟩
theorem nW(s:ByteArray)(h1:s.data.toList≠[110,97,110])(h2:s.data.toList≠[105,110,102])(h3:s.data.toList≠[45,105,110,102])(h4:s.data.toList≠[45,48])(h5:∀r,s.data.toList≠120::r)(hlim:s.size<=281474976710656)(w:World)(hs:Sen w):
  Calls Tryz.prog 165 #[.string s] w fun e w'=>∃(x:Nat) (ok:Bool),e=.returned (.tuple #[.float .f64 x,.bool ok])∧x<18446744073709551616∧(∀z,z<18446744073709551616->s.data.toList=text z->x=ak z∧ok=true)∧Below w.1.size w w':=by
 have q1:=aU h1
 have q2:=aU h2
 have q3:=aU h3
 have q4:=aU h4
 have hcut:Hid (∀w,Calls Tryz.prog 185 #[.string s,.string ⟨#[120]⟩] w fun e w'=>e=.returned (.tuple #[.string s,.bool false])∧w'=w):=fun w=>by
  have:=Tryz.strings_CutPrefix s ⟨#[120]⟩ w
  have e1:Lib.hasPrefix s.data.toList [120]=false:=by
   unfold Lib.hasPrefix
   match hl:s.data.toList with
   | []=>rfl
   |c::r=>
    by_cases hc:c=120
    ·exact absurd (hl.trans (by rw[hc])) (h5 r)
    ·simp[List.isPrefixOf,Ne.symm hc]
  have e2:Lib.trimPrefix s.data.toList [120]=s.data.toList:=by unfold Lib.trimPrefix;rw[e1];rfl
  have e3:(⟨#[120]⟩:ByteArray).data.toList=[120]:=rfl
  rw[e3,e1,e2] at this
  exact this
 have IP:=tQ (jF s hlim)
 have HS:=tQ hs
 have HD:Hid (∀z,z<18446744073709551616->s.data.toList=text z->Lib.parseIntB 64 s.data.toList=.ok (Flt.trunc z)∧floatOfInt .f64 (Flt.trunc z)=ak z):=fun z hz ht=>by
  obtain⟨e1,e2,e3⟩:=gk ht h1 h2 h3 h4 h5
  obtain⟨t1,t2⟩:=bz e2
  rw[e1,e3]
  exact⟨Txt.parse_itoa _ t1 t2,cI hz e2⟩
 clear hs hlim h1 h2 h3 h4 h5
 go_enter Tryz.func165,Tryz.ntmps165
 go_wp2_with fail
 refine(hcut.out _).mono ?_
 rintro e w' ⟨rfl,rfl⟩
 go_wp2_with fail
 refine(IP.out _ HS.out).mono ?_
 rintro e w1 ⟨v,er,rfl,h3,h4,hb⟩
 have HB:=tQ hb
 have HL:=tQ (dL v)
 rcases h3 with rfl | ⟨N,rfl⟩
 ·have HF:Hid (∀z,z<18446744073709551616->s.data.toList=text z->floatOfInt .f64 v=ak z):=fun z hz ht=>by
   obtain⟨e1,e2⟩:=HD.out z hz ht
   rw[(h4 _ e1).1];exact e2
  clear h4 hb
  go_wp2
  go_region
  go_wp2
  go_ret2
  exact⟨_,_,rfl,HL.out,fun z hz ht=>⟨HF.out z hz ht,rfl⟩,HB.out.drew⟩
 ·have HF:Hid (∀z,z<18446744073709551616->s.data.toList=text z->False):=fun z hz ht=>by
   obtain⟨e1,e2⟩:=HD.out z hz ht
   have:=(h4 _ e1).2
   cases this
  clear h4 hb
  go_wp2
  go_region
  go_wp2
  go_ret2
  exact⟨_,_,rfl,HL.out,fun z hz ht=>(HF.out z hz ht).elim,HB.out.drew⟩
theorem ig(s:ByteArray)(hlim:s.size<=281474976710656)(w:World)(hs:Sen w):
  Calls Tryz.prog 165 #[.string s] w fun e w'=>∃(x:Nat) (ok:Bool),e=.returned (.tuple #[.float .f64 x,.bool ok])∧x<18446744073709551616∧(∀z,z<18446744073709551616->s.data.toList=text z->x=ak z∧ok=true)∧Below w.1.size w w':=by
 by_cases h1:s.data.toList=[110,97,110]
 ·have e:=fb h1
  subst e
  refine(nU w).mono ?_
  rintro e w' ⟨rfl,rfl⟩
  exact⟨_,_,rfl,by omega,fun z _ ht=>⟨(gi (ht.symm.trans h1)).symm,rfl⟩,tZ⟩
 by_cases h2:s.data.toList=[105,110,102]
 ·have e:=fb h2
  subst e
  refine(nV w).mono ?_
  rintro e w' ⟨rfl,rfl⟩
  exact⟨_,_,rfl,by omega,fun z _ ht=>⟨(gj (ht.symm.trans h2)).symm,rfl⟩,tZ⟩
 by_cases h3:s.data.toList=[45,105,110,102]
 ·have e:=fb h3
  subst e
  refine(l5 w).mono ?_
  rintro e w' ⟨rfl,rfl⟩
  exact⟨_,_,rfl,by omega,fun z _ ht=>⟨(fj (ht.symm.trans h3)).symm,rfl⟩,tZ⟩
 by_cases h4:s.data.toList=[45,48]
 ·have e:=fb h4
  subst e
  refine(pN w).mono ?_
  rintro e w' ⟨rfl,rfl⟩
  exact⟨_,_,rfl,by omega,fun z _ ht=>⟨(jp (ht.symm.trans h4)).symm,rfl⟩,tZ⟩
 by_cases h5:∃r,s.data.toList=120::r
 ·obtain⟨r,hr⟩:=h5
  exact qY s r hr hlim w hs
 ·exact nW s h1 h2 h3 h4 (fun r hr=>h5 ⟨r,hr⟩) hlim w hs
end
section
open Go.RowKit
theorem ie(s:ByteArray)(hlim:s.size<=281474976710656)(w:World)(ht:Tab w)(hz:Tz w)(hs:Sen w):
    Calls Tryz.prog 141 #[.string s] w fun e w'=>
      ((∃z,z<18446744073709551616∧s.data.toList=text z∧e=.returned (.tuple #[.float .f64 (ak z),.int .i64 0])) ∨
       ((∀z,z<18446744073709551616->s.data.toList≠text z)∧e=.returned (.tuple #[.float .f64 0,.int .i64 11])))∧Below w.1.size w w':=by
  have HT:=tQ ht
  have HZ:=tQ hz
  have HS:=tQ hs
  have IG:=tQ (ig s hlim)
  clear ht hz hs hlim
  go_enter Tryz.func141,Tryz.ntmps141
  go_wp2_with fail
  refine(IG.out _ HS.out).mono ?_
  rintro e w1 ⟨x,ok,rfl,hx,hq,hb⟩
  have HB:=tQ hb
  clear hb
  cases ok
  · have HN:Hid (∀z,z<18446744073709551616->s.data.toList≠text z):=fun z hz ht=>by
      have:=(hq z hz ht).2
      cases this
    clear hq hx
    go_wp2
    go_ret2
    exact⟨.inr ⟨HN.out,rfl⟩,HB.out⟩
  · have IP:=tQ (eh x hx)
    by_cases he:s.data.toList=text x
    · have hb:((text x==s.toList))=true:=by rw[Lib.toList_data,beq_iff_eq];exact he.symm
      have HE:Hid (∃z,z<18446744073709551616∧s.data.toList=text z∧x=ak z):=⟨x,hx,he,(hq x hx he).1⟩
      clear he hq hx
      go_wp2_with fail
      refine(IP.out _ (oJ HT.out HB.out) (rz HZ.out HB.out)).mono ?_
      rintro e w2 ⟨rfl,hb2⟩
      have HB2:=tQ hb2
      clear hb2
      go_wp2
      go_ret2
      obtain⟨z,z1,z2,z3⟩:=HE.out
      refine⟨.inl ⟨z,z1,z2,?_⟩,HB.out.trans (HB2.out.mono HB.out.size)⟩
      rw[<-z3];rfl
    · have hb:((text x==s.toList))=false:=by rw[Lib.toList_data,beq_eq_false_iff_ne];exact Ne.symm he
      have HN:Hid (∀z,z<18446744073709551616->s.data.toList≠text z):=fun z hz ht=>by
        have e1:=(hq z hz ht).1
        apply he
        rw[e1,eN];exact ht
      clear he hq hx
      go_wp2_with fail
      refine(IP.out _ (oJ HT.out HB.out) (rz HZ.out HB.out)).mono ?_
      rintro e w2 ⟨rfl,hb2⟩
      have HB2:=tQ hb2
      clear hb2
      go_wp2
      go_ret2
      exact⟨.inr ⟨HN.out,rfl⟩,HB.out.trans (HB2.out.mono HB.out.size)⟩
end
section
open Go.RowKit
namespace Hex
theorem hexd_inj:∀a b:Fin 16,hexd a.val=hexd b.val->a.val=b.val:=by decide
theorem digits_mod(u v:Nat):∀k,digits u k=digits v k->u % 16 ^ k=v % 16 ^ k
 |0,_=>by simp[Nat.mod_one]
 |k+1,h=>by
  simp only[digits,List.cons.injEq] at h
  obtain⟨h1,h2⟩:=h
  have e1:=digits_mod u v k h2
  have e2:=hexd_inj ⟨u / 16 ^ k % 16,Nat.mod_lt _ (by omega)⟩ ⟨v / 16 ^ k % 16,Nat.mod_lt _ (by omega)⟩ h1
  simp only at e2
  rw[Nat.mod_pow_succ,Nat.mod_pow_succ,e1,e2]
theorem digits_inj{u v:Nat}(hu:u<18446744073709551616)(hv:v<18446744073709551616)(h:digits u 16=digits v 16):u=v:=by
 have:=digits_mod u v 16 h
 have e:(16:Nat) ^ 16=18446744073709551616:=by decide
 rw[e,Nat.mod_eq_of_lt hu,Nat.mod_eq_of_lt hv] at this
 exact this
end Hex
theorem oG{y z:Nat}(hy:y<18446744073709551616)(hz:z<18446744073709551616)(h:text y=text z):ak y=ak z:=by
 rcases bd y with ⟨e,f⟩ | ⟨e,f⟩ | ⟨e,f⟩ | ⟨e,f⟩ | ⟨e,d,f⟩ | ⟨e,f⟩
 ·rw[f,gi (h.symm.trans e)]
 ·rw[f,gj (h.symm.trans e)]
 ·rw[f,fj (h.symm.trans e)]
 ·rw[f,jp (h.symm.trans e)]
 ·obtain⟨w1,w2,w3,w4,w5⟩:=Txt.itoa_words (Flt.trunc y)
  obtain⟨e1,e2,e3⟩:=gk (l:=Lib.itoa (Flt.trunc y)) (e.symm.trans h) w1 w2 w3 w4 w5
  have b1:=bz d
  have b2:=bz e2
  have p1:=Txt.parse_itoa _ b1.1 b1.2
  have p2:=Txt.parse_itoa _ b2.1 b2.2
  rw[e1,p2] at p1
  have hn:Flt.trunc z=Flt.trunc y:=Lib.NumEnd.ok.inj p1
  rw[f,e3,<-cI hy d,<-cI hz e2,hn]
 ·obtain⟨e1,e2⟩:=gh (h.symm.trans e)
  rw[f,e2]
  exact Hex.digits_inj hy hz e1
end
end Go.Proofs.YtllbniljgcgbeaaGreatDoor
