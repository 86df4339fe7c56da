import Derived.Test.YtllbniljgcgbeaaGreatDoorTie
import Derived.Test.YtllbniljgcgbeaaGreatDoorCards
import Derived.Test.YtllbniljgcgbeaaGreatDoorA21
import Derived.LaidMore
import Derived.Stop.LaidErr
namespace Go.Proofs.YtllbniljgcgbeaaGreatDoor
open Go.ChangeShapes Go.WideShapes Go.ChangeAt Go.RowKit
theorem own:ownKnob Tryz.prog.godebug=none:=by kernel_rfl
theorem gV{H:Type}{enc:TypeId×Value->H}{P:Program}{w:World}{base:Nat}{sp:Nat->Bool}{held:Bool}{fuel:Nat}{t e:TypeId}{n:Nat}{cs:List Value}{zs:List L8}{p:List MemPlace}(ht:P.underlying t=some (.array n e))(he:P.underlying e=some .string)(hce:P.cellsOf e=1)(hct:P.cellsOf t=n)(h:DataW.trod enc P w base sp held fuel t cs=some (.agg (zs.map fun z=>.lit (.string z)),p)):cs=zs.map fun z=>Value.string ⟨z.toArray⟩:=by
 cases fuel with
 |zero=>simp[DataW.trod] at h
 |succ fuel=>
  simp only[DataW.trod,ht,hce,hct,Nat.mul_one] at h
  split at h
  ·rename_i hl
   obtain⟨xs,hm,hx⟩:=Option.map_eq_some_iff.1 h
   have hxs:xs.map (·.1)=zs.map fun z=>(DataW.lit (.string z):DataW H):=by
    have:=congrArg Prod.fst hx
    simpa using this
   have hxl:xs.length=n:=by simpa using Lib.mapM_length hm
   have hzl:zs.length=n:=by
    have:=congrArg List.length hxs
    simp at this
    omega
   apply List.ext_getElem?
   intro i
   by_cases hi:i<n
   ·obtain⟨b,hb,hf⟩:=Lib.mapM_at hm i i (by simp[hi])
    obtain⟨s,hc,hb1,-⟩:=DataW.trod_string he hf
    have h1:cs[i]?=some (.string s):=by
     have:=congrArg (·[0]?) hc
     simpa[List.getElem?_take,List.getElem?_drop] using this
    have h2:(xs.map (·.1))[i]?=some b.1:=by simp[hb]
    rw[hxs] at h2
    simp only[List.getElem?_map,Option.map_eq_some_iff] at h2
    obtain⟨z,hz,hzb⟩:=h2
    rw[hb1] at hzb
    injection hzb with hzb
    injection hzb with hzb
    have:s=⟨z.toArray⟩:=by rw[hzb]
    simp[h1,hz,this]
   ·rw[List.getElem?_eq_none (by omega),List.getElem?_eq_none (by simp;omega)]
  ·cases h
theorem kd{rest:List (String×DataW Unit)}{W:World}(h : laidMet Tryz.prog (("math/bits.deBruijn32tab", Rows.laid_math_bits_deBruijn32tab)::("math/bits.deBruijn64tab", Rows.laid_math_bits_deBruijn64tab)::("internal/strconv.uint64pow10", Rows.laid_internal_strconv_uint64pow10)::rest) W): Tab W := by
 have h1:=h.tail.tail
 have e:(Rows.laid_internal_strconv_uint64pow10:DataW Unit)=Lib.tabData .u64 Lib.pow10Tab:=by kernel_rfl
 rw[e] at h1
 exact Lib.tabIs_of_head (g:=2) (t:=193) (e:=107) (n:=20) (by kernel_rfl) (by kernel_rfl) (by kernel_rfl) (by kernel_rfl) (by kernel_rfl) (by kernel_rfl) h1
theorem ly{rest:List (String×DataW Unit)}{W:World}(h : laidMet Tryz.prog (("math/bits.deBruijn32tab", Rows.laid_math_bits_deBruijn32tab)::("math/bits.deBruijn64tab", Rows.laid_math_bits_deBruijn64tab)::rest) W): W.cell? ⟨6, 15, none⟩=some (.int .u8 4) := by
 have h1:=h.tail
 have e:(Rows.laid_math_bits_deBruijn64tab:DataW Unit)=Lib.tabData .u8 [0,1,56,2,57,49,28,3,61,58,42,50,38,29,17,4,62,47,59,36,45,43,51,22,53,39,33,30,24,18,12,5,63,55,48,27,60,41,37,16,46,35,44,21,52,32,23,11,54,26,40,15,34,20,31,10,25,14,19,9,13,8,7,6]:=by kernel_rfl
 rw[e] at h1
 have h2:=Lib.tabIs_of_head (g:=6) (t:=213) (e:=5) (n:=64) (by kernel_rfl) (by kernel_rfl) (by kernel_rfl) (by kernel_rfl) (by kernel_rfl) (by kernel_rfl) h1
 have h3:=h2.cell (g:=6) (by kernel_rfl) 15 (by decide)
 exact h3
theorem star: "*"++ "errors.errorString"= "*errors.errorString" := by decide
theorem mx(u : TypeId)(h : Tryz.prog.typeName? 3 u=some "*errors.errorString"): u=209 :=
 typeName_ptr_named (nm := "errors.errorString") (by rw[star]; kernel_rfl) (by kernel_rfl) (by decide) u (by rw[star]; exact h)
theorem td:(Tryz.prog.globals[3]?).map (·.type)=some 151:=by kernel_rfl
theorem tf:(Tryz.prog.globals[4]?).map (·.type)=some 151:=by kernel_rfl
theorem p6:Tryz.prog.cellsOf 211=1:=by kernel_rfl
theorem mc:Tryz.prog.cellsOf 9=1:=by kernel_rfl
theorem qP:(Rows.laid_gabion_text_kindWords:DataW Unit)=.agg (([[],[98,111,111,108],[105,110,116],[102,108,111,97,116],[116,101,120,116],[98,121,116,101,115],[111,112,116],[108,105,115,116]]:List L8).map fun z=>.lit (.string z)):=rfl
theorem l4{W:World}(h:laidMetH Tryz.prog Rows.textParsesSchemaUptoRow.laid W):Hv W:=by
 rw[MakeChecks.laidMetH_plain _ _ _ (by kernel_rfl)] at h
 have h3:=h.tail.tail.tail
 obtain⟨a0,s0,hv0,-,-,-⟩:=laid_sentinel h3 rb tf Tryz.underlying151 mx Tryz.underlying209 Tryz.underlying211 rfl rfl Tryz.underlying9 p6 mc
 obtain⟨a1,s1,hv1,-,-,-⟩:=laid_sentinel h3.tail qZ td Tryz.underlying151 mx Tryz.underlying209 Tryz.underlying211 rfl rfl Tryz.underlying9 p6 mc
 refine⟨kd h,ly h,⟨⟨_,_,hv1⟩,⟨_,_,hv0⟩⟩,?_⟩
 have h5:=h3.tail.tail
 obtain⟨ps,⟨g',t',cs,fuel,p,q,hg',ht',hvar,hd,_,_⟩,_⟩:=h5
 have hty:(Tryz.prog.globals[0]?).map (·.type)=some 131:=by kernel_rfl
 obtain rfl:=Option.some.inj (gKw.symm.trans hg')
 obtain rfl:=Option.some.inj (hty.symm.trans ht')
 rw[qP] at hd
 have hcs:=gV (n:=8) (e:=9) (by kernel_rfl) Tryz.underlying9 mc (by kernel_rfl) hd
 have hk:cs=kwC:=by rw[<-Array.toArray_toList (xs:=cs),hcs];rfl
 rw[hvar,hk]
end Go.Proofs.YtllbniljgcgbeaaGreatDoor
