import Derived.Test.YtdgacombdcajmaaGreatDoorL17A
import Derived.Test.YtdgacombdcajmaaGreatDoorSrt
import Derived.Shelf.SlSortCmp.NoneTotal
import Derived.Test.YtdgacombdcajmaaGreatDoorB40
import Derived.Test.YtdgacombdcajmaaGreatDoorB26
set_option maxRecDepth 100000
set_option maxHeartbeats 4000000
namespace Go.Proofs.YtdgacombdcajmaaGreatDoor
section
open Go.RowKit
def eR(w:World)(s:Int->Option (List Col))(g:Int->Option Value):Prop:=∀n,match s n with
 |none=>g n=none
 |some c=>∃p d,g n=some (.agg #[.slice p c.length d])∧bQ w p d c
theorem eR.on{w w':World}{s:Int->Option (List Col)}{g:Int->Option Value}(h:eR w s g)(hb:Below w.1.size w w'):eR w' s g:=fun n=>by
 have:=h n
 cases hs:s n with
 |none=>rw[hs] at this;exact this
 |some c=>
  rw[hs] at this
  obtain⟨p,d,h1,h2⟩:=this
  exact⟨p,d,h1,h2.on hb⟩
def fB(w:World)(B:Nat)(v:Value)(ds:List Int):Prop:=Lot 2 1 (fun m u _=>u=[.int .i64 m]) w B v ds
theorem uP:(Tryz.prog.info? 2).map (fun i=>(i.zero,i.size,i.bytes))=some (some (.int .i64 0),1,8):=by kernel_rfl
theorem fB.aside{F:Nat->Prop}{w w':World}{B:Nat}{v:Value}{ds:List Int}(h:fB w B v ds)(ha:Aside F w w')(hv:∀i,v.ownBlock=some i->¬F i):fB w' B v ds:=Lot.aside h ha hv fun _ _ hs=>fun _ _=>hs.here
theorem fB.blk{w:World}{B:Nat}{v:Value}{ds:List Int}(h:fB w B v ds){i:Nat}(hi:v.ownBlock=some i):∃C,w.1[i]?=some (.cells C 2 (0,0)):=by
 obtain⟨us,_,_,h1,_⟩:=h.out
 rcases h1.2 with ⟨rfl,_⟩ | ⟨g,cap,cur,rfl,_,h5,_⟩
 ·cases hi
 ·injection hi with hi
  rw[<-hi]
  exact⟨cur,h5⟩
structure U17(w0 w wr:World)(l:List (Int×List Col))(M t n:Nat)(g:Int->Option Value)(v:Value)(ds:List Int):Prop where
 map:KM wr M n g
 few:n<=t
 sees:eR w0 (Sv.first (l.take t)) g
 nums:fB wr w.1.size v ds
 dfew:ds.length<=t
 bad:∀m,m∈ds↔Sv.bad (l.take t) m=true
 i64:∀m∈ds,Fr.i64 m
 below:Below w.1.size w wr
section
variable {w0 w wr W W':World} {l:List (Int×List Col)} {M t n:Nat} {g:Int->Option Value} {v:Value} {ds:List Int} {xn:Int} {xc:List Col}
theorem ek(h:t<l.length)(hx:l[t]=(xn,xc)):l.take (t+1)=l.take t++[(xn,xc)]:=by rw[List.take_succ_eq_append_getElem h,hx]
theorem U17.off(h:U17 w0 w wr l M t n g v ds):v.ownBlock≠some M:=fun hc=>by
 obtain⟨C,hC⟩:=h.nums.blk hc
 exact h.map.off hC rfl
theorem U17.fresh(h:U17 w0 w wr l M t n g v ds)(hM:w.1.size<=M)(ht:t<l.length)(hx:l[t]=(xn,xc))(hf:Sv.first (l.take t) xn=none){p:OA}{d:Nat}(hs:bQ w0 p d xc)(hb:Below wr.1.size wr W)(hk:KM W' M (n+1) (fun k=>if k=xn then some (.agg #[.slice p xc.length d]) else g k))(ha:Aside (fun k=>k=M) W W'):
  U17 w0 w W' l M (t+1) (n+1) (fun k=>if k=xn then some (.agg #[.slice p xc.length d]) else g k) v ds:=by
 refine⟨hk,by have:=h.few;omega,fun m=>?_,fB.aside (Lot.on h.nums hb) ha (fun i hi hc=>h.off (by rw[hi,hc])),by have:=h.dfew;omega,fun m=>?_,h.i64,(h.below.trans (hb.mono h.below.size)).trans (ha.below (by have:=h.below.size;have:=hb.size;omega) (fun k hk hc=>by omega))⟩
 ·rw[ek ht hx,Sv.first_snoc]
  dsimp only
  by_cases hm:m=xn
  ·subst hm
   rw[if_pos rfl,if_pos rfl,hf]
   exact⟨p,d,rfl,hs⟩
  ·rw[if_neg hm,if_neg hm]
   exact h.sees m
 ·rw[ek ht hx,Sv.bad_snoc,h.bad m]
  by_cases hm:m=xn
  ·subst hm
   rw[hf]
   simp
  ·simp[hm]
theorem U17.again(h:U17 w0 w wr l M t n g v ds)(ht:t<l.length)(hx:l[t]=(xn,xc)){c:List Col}(hf:Sv.first (l.take t) xn=some c)(hs:Sch.same c xc=true)(hb:Below wr.1.size wr W):U17 w0 w W l M (t+1) n g v ds:=by
 refine⟨h.map.on hb,by have:=h.few;omega,fun m=>?_,Lot.on h.nums hb,by have:=h.dfew;omega,fun m=>?_,h.i64,h.below.trans (hb.mono h.below.size)⟩
 ·rw[ek ht hx,Sv.first_snoc]
  by_cases hm:m=xn
  ·subst hm
   have:=h.sees m
   rw[if_pos rfl,hf]
   rw[hf] at this
   exact this
  ·rw[if_neg hm]
   exact h.sees m
 ·rw[ek ht hx,Sv.bad_snoc,h.bad m]
  by_cases hm:m=xn
  ·subst hm
   rw[hf]
   simp[hs]
  ·simp[hm]
theorem U17.doubt(h:U17 w0 w wr l M t n g v ds)(ht:t<l.length)(hx:l[t]=(xn,xc))(hxi:Fr.i64 xn){c:List Col}(hf:Sv.first (l.take t) xn=some c)(hs:Sch.same c xc=false)(hb:Below wr.1.size wr W){v':Value}(hn:fB W' w.1.size v' (ds++[xn]))(ha:Aside (fun i=>v.ownBlock=some i) W W'):U17 w0 w W' l M (t+1) n g v' (ds++[xn]):=by
 refine⟨(h.map.on hb).aside ha h.off,by have:=h.few;omega,fun m=>?_,hn,by have:=h.dfew;simp;omega,fun m=>?_,fun m hm=>?_,(h.below.trans (hb.mono h.below.size)).trans (ha.below (by have:=h.below.size;have:=hb.size;omega) (fun k hk hc=>by have:=(Lot.lt h.nums k hc).1;omega))⟩
 ·rw[ek ht hx,Sv.first_snoc]
  by_cases hm:m=xn
  ·subst hm
   have:=h.sees m
   rw[if_pos rfl,hf]
   rw[hf] at this
   exact this
  ·rw[if_neg hm]
   exact h.sees m
 ·rw[ek ht hx,Sv.bad_snoc,List.mem_append,h.bad m]
  by_cases hm:m=xn
  ·subst hm
   rw[hf]
   simp[hs]
  ·simp[hm]
 ·rcases List.mem_append.1 hm with hm | hm
  ·exact h.i64 m hm
  ·rw[List.mem_singleton.1 hm]
   exact hxi
end
def yi(w0 w:World)(l:List (Int×List Col))(e:Ending)(w':World):Prop:=∃M n g,e=.returned (.map (some M))∧KM w' M n g∧n<=l.length∧w.1.size<=M∧eR w0 (Sv.sure l) g∧Below w.1.size w w'
theorem jc(l:List (Int×List Col))(q:OA)(c:Nat)(w0 w:World)(hl:l.length<=1000000)(h0:Below w0.1.size w0 w)(hS:jP w0 q l)(hi:∀p∈l,Fr.i64 p.1):
  Calls Tryz.prog 25 #[.slice q l.length c] w (yi w0 w l):=by
 have HS:=yQ hS
 have H0:=yQ h0
 have HI:=yQ hi
 have hmm:=@run_makeMap Tryz.prog
 have HU0:Hid (U17 w0 w (w.alloc (.map #[] 0)) l w.1.size 0 0 (fun _=>none) (.slice none 0 0) []):=⟨po w,by omega,fun n=>by simp[Sv.first],gD _ _,by simp,fun m=>by simp[Sv.bad],by simp,yY⟩
 clear hS hi h0
 go_enter Tryz.func25,Tryz.ntmps25
 go_wp2_with fail
 go_loopw [4,14] (fun v4 v14 wr=>∃(t n:Nat) (g:Int->Option Value) (ds:List Int),t<=l.length∧v14=.int .i64 t∧Hid (U17 w0 w wr l w.1.size t n g v4 ds)) (fun _ v14 _=>l.length-(intOf v14).toNat)
 case atStart=>exact⟨0,0,_,[],by omega,rfl,HU0⟩
 case round=>
  obtain⟨t,n,g,ds,ht,rfl,HU⟩:=hrel
  clear HU0
  by_cases htl:t<l.length
  ·have htl':(t:Int)<(l.length:Int):=by omega
   obtain⟨b,o,p,cp,hq,hb,x0,x1,hsl⟩:=HS.out t htl
   subst hq
   obtain⟨xn,xc,hx⟩:∃xn xc,l[t]=(xn,xc):=⟨_,_,rfl⟩
   have hxi:=HI.out l[t] (List.getElem_mem htl)
   rw[hx] at x0 x1 hsl hxi
   simp only at x0 x1 hsl hxi
   have HX:=yQ hx
   have HXi:=yQ hxi
   have HSl:=yQ hsl
   have hb00:=H0.out.trans (HU.out.below.mono H0.out.size)
   replace x0:=ae hb00 x0
   replace x1:=ae hb00 x1
   have HL1:=yQ ((HU.out.map.on (yZ.alloc yX (.cells #[.int .i64 xn,.slice p xc.length cp] 58))).look hxi)
   clear hx hxi hsl hb00
   cases hf:Sv.first (l.take t) xn with
   |none=>
    have hg0:g xn=none:=by have:=HU.out.sees xn;rw[hf] at this;exact this
    have hlk:=HL1.out
    rw[hg0,show(none:Option Value).getD dZ=.agg #[.slice none 0 0] from rfl,show(none:Option Value).isSome=false from rfl] at hlk
    have HF:=yQ hf
    have HKM:=yQ (HU.out.map.on ((yZ.alloc yX (.cells #[.int .i64 xn,.slice p xc.length cp] 58)).alloc (by simp) (.cells #[.slice none 0 0] 31)))
    clear hf hg0
    go_wp2_with (first | (at_mapUpdate;refine rI HKM.out HXi.out (by have:=HU.out.few;omega) (.agg #[.slice p xc.length cp]) rfl rfl rfl rfl rfl ?_;intro wm hkm ham hsm;have HN:=yQ (HU.out.fresh yX htl HX.out HF.out HSl.out (yY.alloc (by simp) _) hkm ham);clear hkm ham hsm) | fail)
    go_roundw
    case rel=>exact⟨t+1,n+1,_,ds,by omega,by go_num,HN⟩
    case measure=>simp[intOf];omega
   |some c1=>
    obtain⟨p1,d1,hg1,hs1⟩:∃p d,g xn=some (.agg #[.slice p c1.length d])∧bQ w0 p d c1:=by have:=HU.out.sees xn;rw[hf] at this;exact this
    have hlk:=HL1.out
    rw[hg1,show(some (Value.agg #[.slice p1 c1.length d1])).getD dZ=.agg #[.slice p1 c1.length d1] from rfl,show(some (Value.agg #[.slice p1 c1.length d1])).isSome=true from rfl] at hlk
    have HF:=yQ hf
    obtain⟨W2,hW2⟩:∃W,W=(wr.alloc (.cells #[.int .i64 xn,.slice p xc.length cp] 58)).alloc (.cells #[.slice p1 c1.length d1] 31):=⟨_,rfl⟩
    have hb2:Below wr.1.size wr W2:=by rw[hW2];exact yY.alloc (by simp) _
    have hb0:=H0.out.trans ((HU.out.below.trans (hb2.mono HU.out.below.size)).mono H0.out.size)
    have HSm:=yQ (rY c1 xc p1 p d1 cp W2 hs1.len (hs1.on hb0).cols (HSl.out.on hb0).cols)
    have k2:W2.cell? ⟨wr.1.size,0,none⟩=some (.int .i64 xn):=by rw[hW2];simp
    have HB2:=yQ hb2
    have HW2:=yQ hW2
    clear hf hg1 hs1 hW2 hb2 hb0
    go_wp2_with fail
    rw[<-HW2.out]
    refine HSm.out.mono ?_
    rintro e w3 ⟨rfl,hb3⟩
    have z0:=ae hb3 k2
    have HB3:=yQ (HB2.out.trans (hb3.mono HB2.out.size))
    clear hb3 HSm k2 hlk x0 x1 HW2
    cases hsm:Sch.same c1 xc with
    |true=>
     have HN:=yQ (HU.out.again htl HX.out HF.out hsm HB3.out)
     clear hsm
     go_wp2
     go_roundw
     case rel=>exact⟨t+1,n,g,ds,by omega,by go_num,HN⟩
     case measure=>simp[intOf];omega
    |false=>
     have HB4:=yQ (HB3.out.alloc HB3.out.size (.cells #[.int .i64 xn] 2))
     have hlot:=Lot.on HU.out.nums HB4.out
     have HLt:=yQ hlot
     have HSm:=yQ hsm
     clear hsm hlot
     go_wp2_with (first | (at_builtin;refine ja uP Tryz.underlying125 rfl (by decide) HLt.out xn #[.int .i64 xn] rfl (by intro a ha;simp at ha;rw[ha];rfl) (fun _ _=>rfl) (an _ _) (by have:=HU.out.dfew;omega) (by have:=HU.out.dfew;omega) (by have:=HU.out.below.size;have:=HB4.out.size;omega) rfl rfl rfl rfl rfl ?_;intro g2 cap w5 hl5 ha5 _;have HN:=yQ (HU.out.doubt htl HX.out HXi.out HF.out HSm.out HB4.out hl5 ha5);clear hl5 ha5) | fail)
     go_roundw
     case rel=>exact⟨t+1,n,g,ds++[xn],by omega,by go_num,HN⟩
     case measure=>simp[intOf];omega
  ·have hjn:¬(t:Int)<(l.length:Int):=by omega
   obtain rfl:t=l.length:=by omega
   obtain⟨qd,cd,hv,hcd⟩:=Lot.form HU.out.nums
   subst hv
   have hdf:=HU.out.dfew
   clear htl
   go_wp2_with fail
   obtain⟨wo,rfl⟩:∃wo,wo=wr:=⟨_,rfl⟩
   have HR:Hid (KM wo w.1.size n (fun k=>if k∈ds.take 0 then none else g k)∧Aside (fun i=>i=w.1.size) wo wo):=⟨HU.out.map.eq (fun m=>by simp),Aside.refl _ _⟩
   go_loopw [45] (fun v45 w2=>∃s:Nat,s<=ds.length∧v45=.int .i64 s∧Hid (KM w2 w.1.size n (fun k=>if k∈ds.take s then none else g k)∧Aside (fun i=>i=w.1.size) wo w2)) (fun v45 _=>ds.length-(intOf v45).toNat)
   case atStart=>exact⟨0,by omega,rfl,HR⟩
   case round=>
    obtain⟨s,hs,rfl,HK⟩:=hrel
    clear HR
    by_cases hsl:s<ds.length
    ·have hsl':(s:Int)<(ds.length:Int):=by omega
     obtain⟨gd,cap,u,hqd,-,-,hgl,-,hcell,hu⟩:=Lot.cell HU.out.nums s hsl
     injection hqd with hqd _ _
     subst hqd
     have y0:=hcell 0 (by omega)
     rw[hu,Nat.mul_one,Nat.add_zero] at y0
     have z0:=(HK.out.2.cell (p:=⟨gd,s,none⟩) hgl (fun hc=>HU.out.off (by rw[<-hc];rfl))).trans y0
     have HDi:=yQ (HU.out.i64 ds[s] (List.getElem_mem hsl))
     have HTk:Hid (ds.take (s+1)=ds.take s++[ds[s]]):=List.take_succ_eq_append_getElem hsl
     obtain⟨dn,hdn⟩:∃dn,dn=ds[s]:=⟨_,rfl⟩
     rw[<-hdn] at HDi HTk z0
     clear hcell hu y0 hdn
     go_wp2_with (first | (at_delete;refine rM HK.out.1 HDi.out rfl rfl rfl rfl ?_;intro wd hkd had hsd;have HN:Hid (KM wd w.1.size n (fun k=>if k∈ds.take (s+1) then none else g k)∧Aside (fun i=>i=w.1.size) wo wd):=⟨hkd.eq (fun m=>by rw[HTk.out];by_cases hm:m=dn <;> simp[hm]),HK.out.2.trans had (fun _ _ h=>h)⟩;clear hkd had hsd) | fail)
     go_roundw
     case rel=>exact⟨s+1,by omega,by go_num,HN⟩
     case measure=>simp[intOf];omega
    ·have hjs:¬(s:Int)<(ds.length:Int):=by omega
     obtain rfl:s=ds.length:=by omega
     clear hsl
     go_wp2
     go_ret
     have hk:=HK.out.1
     rw[List.take_length] at hk
     refine⟨_,n,_,rfl,hk,by have:=HU.out.few;omega,yX,fun m=>?_,HU.out.below.trans (HK.out.2.below HU.out.below.size (fun k hk hc=>by omega))⟩
     have hs:=HU.out.sees m
     have hbd:=HU.out.bad m
     rw[List.take_length] at hs hbd
     rw[Sv.sure_eq]
     dsimp only
     by_cases hm:m∈ds
     ·rw[if_pos hm,if_pos (hbd.1 hm)]
     ·rw[if_neg hm,if_neg (fun hc=>hm (hbd.2 hc))]
      exact hs
end
section
open Go.RowKit Go.Sort
def fz(y:Int×OA×Nat×Nat):List Value:=[.int .i64 y.1,.slice y.2.1 y.2.2.1 y.2.2.2]
def jF(x y:Int×OA×Nat×Nat):Int:=if x.1<y.1 then -1 else if y.1<x.1 then 1 else 0
theorem uH(x y:Int×OA×Nat×Nat):ltOf jF x y=decide (x.1<y.1):=by
 unfold ltOf jF
 by_cases h1:x.1<y.1
 ·simp[h1]
 ·by_cases h2:y.1<x.1 <;> simp[h1,h2]
theorem xw:SWO (ltOf jF) where
 irrefl x:=by rw[uH];simp
 trans x y z h1 h2:=by rw[uH] at *;simp at *;omega
 ntrans x y z h1 h2:=by rw[uH] at *;simp at *;omega
theorem sD(x:Int)(w:World):Calls Tryz.prog 85 #[.int .i64 x] w fun e w'=>e=.returned (.bool false)∧w'=w:=by
 go_enter Tryz.func85,Tryz.ntmps85
 go_wp2
 go_ret
 exact⟨by simp,rfl⟩
theorem rj(x y:Int)(w:World):Calls Tryz.prog 52 #[.int .i64 x,.int .i64 y] w fun e w'=>e=.returned (.int .i64 (if x<y then -1 else if y<x then 1 else 0))∧w'=w:=by
 have HN:=yQ sD
 by_cases h1:x<y
 ·go_enter Tryz.func52,Tryz.ntmps52
  go_wp2_with (first | (go_at_call 85;refine(HN.out _ _).mono ?_;rintro e w' ⟨rfl,rfl⟩) | fail)
  go_ret
  exact⟨by simp,rfl⟩
 ·by_cases h2:y<x
  ·go_enter Tryz.func52,Tryz.ntmps52
   go_wp2_with (first | (go_at_call 85;refine(HN.out _ _).mono ?_;rintro e w' ⟨rfl,rfl⟩) | fail)
   go_ret
   exact⟨by simp,rfl⟩
  ·go_enter Tryz.func52,Tryz.ntmps52
   go_wp2_with (first | (go_at_call 85;refine(HN.out _ _).mono ?_;rintro e w' ⟨rfl,rfl⟩) | fail)
   go_ret
   exact⟨by simp,rfl⟩
theorem uD(x y:Int×OA×Nat×Nat)(w:World):Calls Tryz.prog 51 #[.agg #[.int .i64 x.1,.slice x.2.1 x.2.2.1 x.2.2.2],.agg #[.int .i64 y.1,.slice y.2.1 y.2.2.1 y.2.2.2]] w fun e w'=>e=.returned (.int .i64 (jF x y))∧∃q os',w'=grow (w.drewN q) os':=by
 have hcon:=fun W'=>rj x.1 y.1 W'
 rw[show(if x.1<y.1 then (-1:Int) else if y.1<x.1 then 1 else 0)=jF x y from rfl] at hcon
 generalize jF x y=r at hcon ⊢
 have HC:=yQ hcon
 clear hcon
 go_enter Tryz.func51,Tryz.ntmps51
 go_wp2_with (first | (go_at_call 52;refine(HC.out _).mono ?_;rintro e w' ⟨rfl,rfl⟩) | fail)
 go_ret
 exact⟨rfl,0,_,by rw[alloc_eq_grow,alloc_eq_grow,grow_grow];rfl⟩
theorem Lot.holds{w:World}{B g cap:Nat}{ys:List (Int×OA×Nat×Nat)}(h:Lot 58 2 (fun y u _=>u=fz y) w B (.slice (some ⟨g,0,none⟩) ys.length cap) ys):HoldsK fz 2 w g 0 ys.toArray:=by
 intro t ht
 rw[size_flatK] at ht
 have ht2:t<ys.length*2:=by simpa using ht
 have hj:t / 2<ys.length:=by omega
 obtain⟨g',cap',u,h1,_,_,h4,h5,h6,h7⟩:=h.cell (t / 2) hj
 injection h1 with h1 _ _
 injection h1 with h1
 injection h1 with h1 _
 subst h1
 have h8:=h6 (t % 2) (by omega)
 rw[show t / 2*2+t % 2=t by omega,h7] at h8
 rw[get_flatK _ _ _ _ ht,Nat.zero_add]
 refine⟨?_,?_⟩
 ·rw[h8]
  have e:ys.toArray[t / 2]! = ys[t / 2]:=by simp[hj]
  rw[e]
  have:t % 2<(fz ys[t / 2]).length:=by show t % 2<2;omega
  simp[this]
 ·obtain⟨us,_,_,h9,_⟩:=h.out
  rcases h9.2 with ⟨h10,_⟩ | ⟨g2,cap2,cur,h10,_,h11,_⟩
  ·cases h10
  ·injection h10 with h10 _ _
   injection h10 with h10
   injection h10 with h10 _
   subst h10
   simp[World.frozen?,h11]
theorem jL{w:World}{g n:Nat}{d:Array (Int×OA×Nat×Nat)}{os:Array Obj}:Aside (fun i=>i=g) w (sortWorldK fz 2 w g 0 n d os):=by
 refine⟨rfl,rfl,rfl,?_,fun k hk hf=>?_⟩
 ·show w.1.size<=(grow (putRowK fz 2 (Sort.ahead w n) g 0 d) os).1.size
  rw[size_grow,size_putRowK]
  show w.1.size<=w.1.size+_
  omega
 ·show(grow (putRowK fz 2 (Sort.ahead w n) g 0 d) os).1[k]?=_
  rw[heap_grow_old _ _ (by rw[size_putRowK];exact hk)]
  show(w.1.modify g _)[k]?=_
  rw[Array.getElem?_modify,if_neg (fun e=>hf e.symm)]
def kP(w:World)(B:Nat)(v:Value)(ys:List (Int×OA×Nat×Nat)):Prop:=Lot 58 2 (fun y u _=>u=fz y) w B v ys
theorem kP.aside{F:Nat->Prop}{w w':World}{B:Nat}{v:Value}{ys:List (Int×OA×Nat×Nat)}(h:kP w B v ys)(ha:Aside F w w')(hv:∀i,v.ownBlock=some i->¬F i):kP w' B v ys:=Lot.aside h ha hv fun _ _ hs=>fun _ _=>hs.here
theorem py:(Tryz.prog.info? 58).map (fun i=>(i.zero,i.size,i.bytes))=some (some (.agg #[.int .i64 0,.slice none 0 0]),2,32):=by kernel_rfl
structure R17(w wr:World)(M n:Nat)(g:Int->Option Value)(s:Int->Option (List Col))(v:Value)(ys:List (Int×OA×Nat×Nat))(cnt:Nat):Prop where
 rng:RM wr M w.1.size n g (ys.map (·.1)) cnt
 rows:kP wr w.1.size v ys
 room:cnt+ys.length<=n
 each:∀y∈ys,∃c,s y.1=some c∧y.2.2.1=c.length∧bQ w y.2.1 y.2.2.2 c
 nodup:(ys.map (·.1)).Nodup
 below:Below w.1.size w wr
 off:v.ownBlock≠some w.1.size
theorem gY{w:World}{s:Int->Option (List Col)}{g:Int->Option Value}{m:Int}{v:Value}(h:eR w s g)(hg:g m=some v):∃c p d,s m=some c∧v=.agg #[.slice p c.length d]∧bQ w p d c:=by
 have:=h m
 cases hs:s m with
 |none=>rw[hs] at this;rw[show g m=none from this] at hg;cases hg
 |some c=>
  rw[hs] at this
  obtain⟨p,d,h1,h2⟩:=this
  rw[h1] at hg
  injection hg with hg
  exact⟨c,p,d,rfl,hg.symm,h2⟩
theorem R17.more{w wr w1 w3 w5:World}{M n:Nat}{g:Int->Option Value}{s:Int->Option (List Col)}{v v':Value}{ys:List (Int×OA×Nat×Nat)}{cnt cn1:Nat}{m:Int}{c:List Col}{p:OA}{d:Nat}(h:R17 w wr M n g s v ys cnt)(hM:M<w.1.size)(ha:Aside (fun k=>k=w.1.size) wr w1)(hr:RM w1 M w.1.size n g (ys.map (·.1)++[m]) cn1)(hlt:cn1<cnt)(hnm:m∉ys.map (·.1))(hs:s m=some c)(hsl:bQ w p d c)(hb:Below w1.1.size w1 w3)(ha5:Aside (fun i=>v.ownBlock=some i) w3 w5)(hl:kP w5 w.1.size v' (ys++[(m,p,c.length,d)]))(ho:v'.ownBlock≠some w.1.size):R17 w w5 M n g s v' (ys++[(m,p,c.length,d)]) cn1:=by
 have hlow:∀k,v.ownBlock=some k->w.1.size<=k:=fun k hk=>(Lot.lt h.rows k hk).1
 refine⟨?_,hl,by have:=h.room;simp;omega,fun y hy=>?_,?_,?_,ho⟩
 ·rw[List.map_append]
  exact(hr.on hb).aside ha5 (fun hc=>by have:=hlow _ hc;omega) h.off
 ·rcases List.mem_append.1 hy with hy | hy
  ·exact h.each y hy
  ·rw[List.mem_singleton.1 hy]
   exact⟨c,hs,rfl,hsl⟩
 ·rw[List.map_append,List.nodup_append]
  refine⟨h.nodup,by simp,fun a ha b hb=>?_⟩
  simp at hb
  rw[hb]
  exact fun e=>hnm (e ▸ ha)
 ·have h1:=h.below.trans (ha.below h.below.size (fun k hk hc=>by omega))
  have h2:=h1.trans (hb.mono h1.size)
  exact h2.trans (ha5.below h2.size (fun k hk hc=>by have:=hlow _ hc;omega))
theorem sa{w w':World}{s:Int->Option (List Col)}{q:OA}{d:Nat}{ys zs:List (Int×OA×Nat×Nat)}(hp:zs.Perm ys)(hsort:zs.Pairwise (fun a b=>¬b.1<a.1))(hnd:(ys.map (·.1)).Nodup)(heach:∀y∈ys,∃c,s y.1=some c∧y.2.2.1=c.length∧bQ w y.2.1 y.2.2.2 c)(hall:∀m c,s m=some c->m∈ys.map (·.1))(hlen:ys.length<=1000000)(hb:Below w.1.size w w')(hc:∀j (h:j<zs.length),∃b o,q=some ⟨b,o,none⟩∧b<w'.1.size∧w'.cell? ⟨b,o+j*2,none⟩=some (.int .i64 zs[j].1)∧w'.cell? ⟨b,o+j*2+1,none⟩=some (.slice zs[j].2.1 zs[j].2.2.1 zs[j].2.2.2)):
  tV w s (.returned (.slice q zs.length d)) w':=by
 have hz:∀z∈zs,∃c,s z.1=some c∧z.2.2.1=c.length∧bQ w z.2.1 z.2.2.2 c:=fun z h=>heach z (hp.mem_iff.1 h)
 have hnz:(zs.map (·.1)).Nodup:=(hp.map _).nodup_iff.2 hnd
 refine⟨zs.map (fun z=>(z.1,(s z.1).getD [])),q,d,by rw[List.length_map],fun j hj=>?_,?_,fun m c=>?_,by rw[List.length_map,hp.length_eq];exact hlen,hb⟩
 ·have hj2:j<zs.length:=by simpa using hj
  obtain⟨b,o,h1,h2,h3,h4⟩:=hc j hj2
  obtain⟨c,h5,h6,h7⟩:=hz _ (List.getElem_mem hj2)
  refine⟨b,o,zs[j].2.1,zs[j].2.2.2,h1,h2,?_,?_,?_⟩
  ·rw[List.getElem_map]
   exact h3
  ·rw[List.getElem_map,h5,h4,h6]
   rfl
  ·rw[List.getElem_map,h5]
   exact h7.on hb
 ·rw[List.pairwise_map]
  have h1:zs.Pairwise (fun a b=>a.1≠b.1):=List.pairwise_map.1 hnz
  exact(hsort.and h1).imp fun {a b} h=>by
   have:=h.1
   have:=h.2
   show a.1<b.1
   omega
 ·rw[List.mem_map]
  constructor
  ·rintro⟨z,h1,h2⟩
   obtain⟨c',h3,_⟩:=hz z h1
   injection h2 with h4 h5
   rw[h3] at h5
   rw[<-h4,h3,<-h5]
   rfl
  ·intro h
   obtain⟨y,h1,h2⟩:=List.mem_map.1 (hall m c h)
   exact⟨y,hp.mem_iff.2 h1,by rw[h2,h];rfl⟩
theorem uz(w:World)(M n:Nat)(g:Int->Option Value)(s:Int->Option (List Col))(hK:KM w M n g)(hn:n<=1000000)(hs:eR w s g):
  Calls Tryz.prog 24 #[.map (some M)] w (tV w s):=by
 have HK:=yQ hK
 have HS:=yQ hs
 clear hK hs
 go_enter Tryz.func24,Tryz.ntmps24
 go_wp2_with (first | (at_range;refine i6 HK.out rfl rfl rfl ?_;intro w0 cnt hcn hrm hb0 hsz0) | fail)
 go_frame
 have HR0:Hid (R17 w w0 M n g s (.slice none 0 0) [] cnt):=⟨hrm,gD _ _,by simpa using hcn,by simp,by simp,hb0,by simp[Value.ownBlock]⟩
 clear hcn hrm hb0 hsz0
 go_loopw [3] (fun v3 wr=>∃(ys:List (Int×OA×Nat×Nat)) (cnt:Nat),Hid (R17 w wr M n g s v3 ys cnt)) (fun _ wr=>wr.rangeLeft M w.1.size)
 case atStart=>exact⟨[],cnt,HR0⟩
 case round=>
  obtain⟨ys,cn,HR⟩:=hrel
  clear HR0
  have HMl:=yQ HK.out.lt
  go_wp2_with (first
   | (at_next;refine kj HR.out.rng rfl rfl rfl ?_ ?_;(intro hall);(have HAl:=yQ hall);(clear hall);rotate_left;(intro m cv w1 cn1 hmi hgm hnm hrm1 hlt ha1 hs1 hen);(obtain⟨cc,p,d,hsm,hce,hsl⟩:=gY HS.out hgm);subst hce;(have HX:=yQ (And.intro hmi (And.intro hnm (And.intro hrm1 (And.intro hlt (And.intro ha1 (And.intro hsm hsl)))))));(have HB2:=yQ (((Below.refl w1.1.size w1).alloc yX (.cells #[.slice p cc.length d] 31)).alloc (by simp) (.cells #[.int .i64 m,.slice p cc.length d] 58)));(have HLt:=yQ (Lot.on (kP.aside HR.out.rows ha1 (fun i hi hc=>HR.out.off (by rw[hi,hc]))) HB2.out));(have HBk:Hid (((w1.alloc (.cells #[.slice p cc.length d] 31)).alloc (.cells #[.int .i64 m,.slice p cc.length d] 58)).1[w1.1.size+1]?=some (.cells #[.int .i64 m,.slice p cc.length d] 58 (0,0))):=(al2 w1 _ _).2.1);(clear hmi hgm hnm hrm1 hlt ha1 hsm hsl hs1))
   | (at_builtin;refine ja (P:=fun y u _=>u=fz y) py Tryz.underlying54 rfl (by decide) HLt.out (m,p,cc.length,d) #[.int .i64 m,.slice p cc.length d] rfl (by intro a ha;simp at ha;rcases ha with rfl | rfl <;> rfl) (fun _ _=>rfl) HBk.out (by have:=HR.out.room;omega) (by have:=HR.out.room;omega) (by have:=HR.out.below.size;have:=HX.out.2.2.2.2.1.size;simp;omega) rfl rfl rfl rfl rfl ?_;(intro g2 cap w5 hl5 ha5 ho5);(have HN:Hid (R17 w w5 M n g s (.slice (some ⟨g2,0,none⟩) (ys.length+1) cap) (ys++[(m,p,cc.length,d)]) cn1):=HR.out.more HMl.out HX.out.2.2.2.2.1 HX.out.2.2.1 HX.out.2.2.2.1 HX.out.2.1 HX.out.2.2.2.2.2.1 HX.out.2.2.2.2.2.2 HB2.out ha5 hl5 (fun hc=>by simp only[Value.ownBlock,Option.some.injEq] at hc;rcases ho5 with ho5 | ho5;exact HR.out.off (by rw[ho5,hc]);have:=HR.out.below.size;have:=HX.out.2.2.2.2.1.size;have:=HR.out.rng.lt.1;simp at ho5;omega));(clear hl5 ha5 ho5))
   |fail)
  ·exact⟨⟨_,_,HN⟩,by rw[HN.out.rng.left,HR.out.rng.left];exact HX.out.2.2.2.1⟩
  ·have HAm:Hid (∀m c,s m=some c->m∈ys.map (·.1)):=fun m c hm=>by
    have:=HS.out m
    rw[hm] at this
    obtain⟨p,d,h1,_⟩:=this
    exact HAl.out m _ h1
   have hyn:ys.length<=1000000:=by have:=HR.out.room;omega
   obtain⟨us,_,_,h3,_⟩:=HR.out.rows.out
   rcases h3.2 with ⟨hv,h0⟩ | ⟨gg,cap,cur,hv,hgg,hgc,hcap,_⟩
   ·subst hv
    have hy0:ys=[]:=List.eq_nil_of_length_eq_zero h0
    subst hy0
    have hcon:=AnyF.slices_SortFunc_none pd none 0 (.func (.func 51) #[] #[]) wr
    change Calls Tryz.prog 50 _ _ _ at hcon
    clear h3 h0
    refine hcon.mono ?_
    rintro e w' ⟨rfl,hw'⟩
    rw[hw']
    clear hw' hcon
    go_wp2
    go_ret
    exact sa (zs:=[]) (List.Perm.refl []) .nil (by simp) (by simp) HAm.out (by simp) HR.out.below (fun j hj=>by simp at hj)
   ·subst hv
    have eg:∀args w,(callFunc 51 args).run Tryz.prog w=.ok (.enter 51 args) w:=enters_of Tryz.func51 (by kernel_rfl) rfl
    have hH:=Lot.holds HR.out.rows
    have hgl:gg<wr.1.size:=ao hgc
    have hcon:=AnyQ.slices_SortFunc pd 2 Tryz.isAgg58 Tryz.sizeOf58 fz (fun _=>rfl) (fun x v hv=>by simp[fz] at hv;rcases hv with rfl | rfl <;> rfl) jF xw 51 #[] gg 0 cap ys.toArray wr eg (fun _ _ _ _ x y=>uD x y _) hH hgl (by simp;omega)
    change Calls Tryz.prog 50 #[.slice (some ⟨gg,0,none⟩) ys.length cap,.func (.func 51) #[] #[]] _ _ at hcon
    have HH:=yQ hH
    have HG:=yQ (And.intro hgg hgl)
    clear h3 eg hH hgc
    refine hcon.mono ?_
    rintro e w' ⟨rfl,d',k,os,hp,hso,hw'⟩
    have HP:=yQ hp
    have HO:=yQ hso
    have HW:=yQ hw'
    clear hcon hp hso hw'
    go_wp2
    go_ret
    have hsz:d'.size=ys.length:=by have:=HP.out.1;simpa using this
    have hzl:d'.toList.length=ys.length:=by simpa using hsz
    have hge:∀j,j<d'.size->d'[j]! = d'.toList[j]!:=fun j hj=>by simp[hj]
    rw[<-hzl]
    refine sa (zs:=d'.toList) ?_ ?_ HR.out.nodup HR.out.each HAm.out hyn ?_ (fun j hj=>?_)
    ·have:=HP.out.2.2
     rw[show ys.toArray.size=d'.size by simp[hsz]] at this
     rw[Array.extract_size] at this
     rw[show d'.size=ys.toArray.size by simp[hsz],Array.extract_size] at this
     simpa using this
    ·rw[List.pairwise_iff_getElem]
     intro i j hi hj hij
     have hi2:i<d'.size:=by simpa using hi
     have hj2:j<d'.size:=by simpa using hj
     have:=HO.out i j (Nat.zero_le _) hij (by rw[show ys.toArray.size=d'.size by simp[hsz]];exact hj2)
     rw[uH] at this
     simpa[hi2,hj2] using this
    ·have:=jL (w:=wr) (g:=gg) (n:=k) (d:=d') (os:=os)
     rw[<-HW.out] at this
     exact HR.out.below.trans (this.below HR.out.below.size (fun k hk hc=>by have:=HG.out.1;omega))
    ·have hj2:j<d'.size:=by simpa using hj
     have hh:=holdsK_sortWorldK fz 2 wr gg 0 k ys.toArray d' os HG.out.2 HH.out (by simp[hsz])
     have hs1:=(jL (w:=wr) (g:=gg) (n:=k) (d:=d') (os:=os)).size
     have e:d'[j]! = d'.toList[j]:=by simp[hj2]
     have c0:=(hh.cell hj2 (c:=0) (by omega)).1
     have c1:=(hh.cell hj2 (c:=1) (by omega)).1
     rw[e,Nat.add_zero] at c0
     rw[e] at c1
     rw[<-HW.out] at c0 c1 hs1
     exact⟨gg,0,rfl,by have:=HG.out.2;omega,c0,c1⟩
end
section
open Go.RowKit
theorem bD.cell{w:World}{B:Nat}{v:Value}{bs:List Nat}{rs:List Run}(h:bD w B v bs rs)(j:Nat)(hj:j<rs.length):∃q cap pr cr,v=.slice (some ⟨q,0,none⟩) rs.length cap∧q<w.1.size∧w.cell? ⟨q,j*2,none⟩=some (.int .i64 rs[j].1)∧w.cell? ⟨q,j*2+1,none⟩=some (.slice pr rs[j].2.length cr)∧At w pr rs[j].2∧rs[j].2.length<=cr:=by
 obtain⟨us,h1,hl,h2⟩:=h.out
 obtain⟨g,cap,e1,e2,e3,hm⟩:=h2 j hj
 rcases h1.2 with ⟨_,h3⟩ | ⟨q,cap2,cur,rfl,h4,h5,h6,h7,h8,h9⟩
 ·omega
 ·have hc:∀m,m<2->w.cell? ⟨q,j*2+m,none⟩=us[j*2+m]?:=fun m hm=>by
   rw[<-h9,List.getElem?_take_of_lt (by omega)]
   simp[World.cell?,h5]
  exact⟨q,cap2,_,cap,rfl,(Array.getElem?_eq_some_iff.1 h5).1,(hc 0 (by omega)).trans e2,(hc 1 (by omega)).trans e3,hm.free.at,hm.base.2.2⟩
def mu(x:Int×List Col)(u:List Value)(w:World):Prop:=∃p d,u=[.int .i64 x.1,.slice p x.2.length d]∧bQ w p d x.2
theorem Lot.schs{w:World}{B:Nat}{v:Value}{xs:List (Int×List Col)}(h:Lot 58 2 mu w B v xs):∃q c,v=.slice q xs.length c∧jP w q xs:=by
 obtain⟨q,c,hv,_⟩:=h.form
 refine⟨q,c,hv,fun j hj=>?_⟩
 obtain⟨g,cap,u,h1,_,_,h4,_,h6,p,d,h7,h8⟩:=h.cell j hj
 rw[hv] at h1
 injection h1 with h1 _ _
 have c0:=h6 0 (by omega)
 have c1:=h6 1 (by omega)
 rw[h7] at c0 c1
 exact⟨g,0,p,d,h1,h4,by rw[Nat.zero_add];exact c0,by rw[Nat.zero_add];exact c1,h8⟩
theorem kn{w:World}{B:Nat}{p:OA}{c:Nat}{s:List Col}{F:Nat->Prop}(h:dx w B #[.slice p s.length c] s)(hw:∀x∈s,x.wf)(hF:∀k,F k->k<B∨w.1.size<=k):dY F w (fun w=>bQ w p c s):=fun w' ha=>by
 obtain⟨v,us,Fs,h1,hb,hl⟩:=h.out
 simp only[Array.mk.injEq,List.cons.injEq,and_true] at h1
 subst h1
 have h2:=hb.aside ha (fun g hg hf=>by have:=hb.lt g hg;have:=hF g hf;omega) (fun j hj k hk hf=>by have:=hb.range j hj k hk;have:=hF k hf;omega)
 obtain⟨p',c',e1,e2,e3⟩:=h2.cols hl
 injection e1 with e4 _ e5
 subst e4 e5
 exact⟨hl,e2,e3,hw⟩
theorem nf{l:L8}{e:Nat}(h:Fr.dec l=.error e):e≠0:=by
 unfold Fr.dec at h
 split at h
 ·next e' he=>injection h with h;rw[<-h];exact lg he
 ·next b hb=>
  unfold Fr.rdF at h
  have hnb:∀{lim:Nat} {l:L8} {e:Nat},Fr.nb lim l=.error e->e=5:=by
   intro lim l e h
   unfold Fr.nb at h
   split at h
   ·injection h with h;omega
   ·split at h
    ·cases h
    ·injection h with h;omega
  have hnbs:∀(ls:List Nat) {l:L8} {e:Nat},Fr.nbs ls l=.error e->e=5:=by
   intro ls
   induction ls with
   |nil=>intro l e h;rw[Fr.nbs] at h;cases h
   |cons a ls ih=>
    intro l e h
    rw[Fr.nbs] at h
    split at h
    ·next e' he=>injection h with h;rw[<-h];exact hnb he
    ·split at h
     ·next e' he=>injection h with h;rw[<-h];exact ih he
     ·cases h
  have hrdE:∀(m:Nat) {l:L8} {e:Nat},Fr.rdE m l=.error e->e=5:=by
   intro m
   induction m with
   |zero=>intro l e h;rw[Fr.rdE] at h;cases h
   |succ m ih=>
    intro l e h
    rw[Fr.rdE] at h
    split at h
    ·next e' he=>injection h with h;rw[<-h];exact hnbs _ he
    ·split at h
     ·next e' he=>injection h with h;rw[<-h];exact ih he
     ·cases h
  split at h
  ·unfold Fr.rdS at h
   split at h
   ·next e' he=>injection h with h;rw[<-h,hnb he];decide
   ·split at h
    ·next e' he=>injection h with h;rw[<-h];exact Sch.read_ne he
    ·cases h
  ·split at h
   ·unfold Fr.rdD at h
    split at h
    ·next e' he=>injection h with h;rw[<-h,hnbs _ he];decide
    ·split at h
     ·injection h with h;omega
     ·cases h
   ·split at h
    ·unfold Fr.rdI at h
     split at h
     ·next e' he=>injection h with h;rw[<-h,hnbs _ he];decide
     ·split at h
      ·next e' he=>injection h with h;rw[<-h,hrdE _ he];decide
      ·split at h
       ·cases h
       ·injection h with h;omega
    ·injection h with h;omega
structure S17(w1 wr:World)(v:Value)(rs:List Run):Prop where
 rows:Lot 58 2 mu wr w1.1.size v (Sv.said rs)
 below:Below w1.1.size w1 wr
theorem S17.skip{w1 wr W:World}{v:Value}{rs:List Run}{r:Run}(h:S17 w1 wr v rs)(hb:Below wr.1.size wr W)(hs:Sv.said (rs++[r])=Sv.said rs):S17 w1 W v (rs++[r]):=⟨by rw[hs];exact h.rows.on hb,h.below.trans (hb.mono h.below.size)⟩
theorem S17.more{w1 wr W W':World}{v v':Value}{rs:List Run}{r:Run}{x:Int×List Col}(h:S17 w1 wr v rs)(hb:Below wr.1.size wr W)(hs:Sv.said (rs++[r])=Sv.said rs++[x])(hl:Lot 58 2 mu W' w1.1.size v' (Sv.said rs++[x]))(ha:Aside (fun i=>v.ownBlock=some i) W W'):S17 w1 W' v' (rs++[r]) :=
 ⟨by rw[hs];exact hl,(h.below.trans (hb.mono h.below.size)).trans (ha.below (Nat.le_trans h.below.size hb.size) (fun k hk hc=>by have:=(h.rows.lt k hc).1;omega))⟩
theorem S17.still{w1 wr w2 W:World}{v:Value}{rs:List Run}{B:Nat}{p:OA}{c:Nat}{l:List Col}(h:S17 w1 wr v rs)(hso:dx w2 B #[.slice p l.length c] l)(hB:wr.1.size<=B)(hw:∀x∈l,x.wf)(hb:Below w2.1.size w2 W)(n:Int):dY (fun i=>v.ownBlock=some i) W (mu (n,l) [.int .i64 n,.slice p l.length c]):=fun w' ha=>
 ⟨p,c,rfl,(kn hso hw (fun k hk=>.inl (Nat.lt_of_lt_of_le (h.rows.lt k hk).2 hB))).step (ag hb _) (fun _ hk=>.inl hk) w' ha⟩
theorem r6{rs:List Run}{r:Run}{e:Nat}(h:Fr.dec r.2=.error e):Sv.said (rs++[r])=Sv.said rs:=by rw[Sv.said_snoc,h];simp
theorem r5{rs:List Run}{r:Run}{f:Fr}(h:Fr.dec r.2=.ok f)(hk:¬f.kind=1):Sv.said (rs++[r])=Sv.said rs:=by rw[Sv.said_snoc,h];simp[hk]
theorem rZ{rs:List Run}{r:Run}{f:Fr}(h:Fr.dec r.2=.ok f)(hk:f.kind=1):Sv.said (rs++[r])=Sv.said rs++[(f.number,f.cols)]:=by rw[Sv.said_snoc,h];simp[hk]
theorem ji:tT Hv:=fun b p c w hl hbc hA hv=>by
 have HR:=yQ (xx w p c b hA (by omega))
 have HV:=yQ hv
 have hol:=Sp.out_len b
 have HSt:=yQ (Sp.row_all b).stand
 obtain⟨rs,hrs⟩:∃rs,rs=(Sp.of b).out:=⟨_,rfl⟩
 rw[<-hrs] at HR hol HSt ⊢
 clear hA hv hrs hbc
 go_enter Tryz.func10,Tryz.ntmps10
 go_wp2_with fail
 refine HR.out.mono ?_
 rintro e w1 ⟨q,cap,bs,rfl,hro,hb1⟩
 have HRo:=yQ hro
 have HB1:=yQ hb1
 clear hro hb1 HR
 go_wp2_with fail
 go_loopw [3,11] (fun v3 v11 wr=>∃t:Nat,t<=rs.length∧v11=.int .i64 t∧Hid (S17 w1 wr v3 (rs.take t))) (fun _ v11 _=>rs.length-(intOf v11).toNat)
 case atStart=>exact⟨0,by omega,rfl,gD _ _,yZ⟩
 case round=>
  obtain⟨t,ht,rfl,HS⟩:=hrel
  by_cases htl:t<rs.length
  ·have htl':(t:Int)<(rs.length:Int):=by omega
   obtain⟨bq,cq,pr,cr,hq,hbq,x0,x1,hat,hcr⟩:=(HRo.out.on HS.out.below).cell t htl
   injection hq with hq hq2 hq3
   clear hq2
   subst hq3
   subst hq
   have hlen:=(HSt.out _ (List.getElem_mem htl)).most
   obtain⟨k,ls,hr⟩:∃k ls,rs[t]=(k,ls):=⟨_,_,rfl⟩
   have HTk:Hid (rs.take (t+1)=rs.take t++[(k,ls)]):=by show _=_;rw[List.take_succ_eq_append_getElem htl,hr]
   rw[hr] at x0 x1 hat hcr hlen
   simp only at x0 x1 hat hcr hlen
   obtain⟨wa,hwa⟩:∃W,W=wr.alloc (.cells #[.int .i64 (k:Int),.slice pr ls.length cr] 84):=⟨_,rfl⟩
   have hba:Below wr.1.size wr wa:=by rw[hwa];exact yY
   have HVa:=yQ ((HV.out.next HB1.out).next (HS.out.below.trans (hba.mono HS.out.below.size)))
   have HD:=yQ (lz pr cr ls (by omega) hcr wa HVa.out (hat.on hba))
   have HBa:=yQ hba
   have HWa:=yQ hwa
   clear hr hat hwa hba
   go_wp2_with fail
   rw[<-HWa.out]
   clear HWa x0 x1
   refine HD.out.mono ?_
   clear HD
   cases hd:Fr.dec ls with
   |error er=>
    rintro e w2 ⟨rfl,hb2⟩
    have hne:=nf hd
    have g1:((er:Int)==0)=false:=bf (by omega)
    have HN:=yQ (HS.out.skip (r:=(k,ls)) (HBa.out.trans ((hb2.alloc hb2.size (.cells #[.int .i64 0,.int .i64 0,.slice none 0 0,.int .i64 0,.int .i64 0,.int .i64 0,.slice none 0 0,.int .i64 0,.int .i64 0,.int .i64 0,.slice none 0 0] 36)).mono HBa.out.size)) (r6 hd))
    clear hb2 hd hne
    go_wp2
    go_roundw
    case rel=>exact⟨t+1,by omega,by go_num,by rw[HTk.out];exact HN⟩
    case measure=>simp[intOf];omega
   |ok f=>
    rintro e w2 ⟨u,rfl,hfo,hb2⟩
    obtain⟨sp,sc,bp,bc,ep,ec,hu,hso,-⟩:=hfo.out
    subst hu
    unfold aI
    have HBd:Hid (Below wr.1.size wr w2):=HBa.out.trans (hb2.mono HBa.out.size)
    have HB4:Hid (Below w2.1.size w2 (w2.alloc (.cells #[.int .i64 f.kind,.int .i64 f.number,.slice sp f.cols.length sc,.int .i64 f.seq,.int .i64 f.first,.int .i64 f.rows,.slice bp f.block.length bc,.int .i64 f.index.at_,.int .i64 f.index.frames,.int .i64 f.index.rows,.slice ep f.index.entries.length ec] 36))):=yY
    by_cases hk:f.kind=1
    ·have g2:(f.kind==1)=true:=dD hk
     have hgd:=Sv.dec_good hd hk
     obtain⟨-,hBk,hB5,-⟩:=al2 w2 (.cells #[.int .i64 f.kind,.int .i64 f.number,.slice sp f.cols.length sc,.int .i64 f.seq,.int .i64 f.first,.int .i64 f.rows,.slice bp f.block.length bc,.int .i64 f.index.at_,.int .i64 f.index.frames,.int .i64 f.index.rows,.slice ep f.index.entries.length ec] 36) (.cells #[.int .i64 f.number,.slice sp f.cols.length sc] 58)
     have HBk:=yQ hBk
     have HB5:=yQ (HBd.out.trans (hB5.mono HBd.out.size))
     have HSti:=yQ (HS.out.still hso HBa.out.size hgd.2.2.2 hB5 f.number)
     have HLt:=yQ (HS.out.rows.on HB5.out)
     have HSn:=yQ (rZ (rs:=rs.take t) (r:=(k,ls)) hd hk)
     have hsl:=Sv.said_le (rs.take t)
     have hsl2:(Sv.said (rs.take t)).length<=100000:=by rw[List.length_take] at hsl;omega
     clear hd hk hgd hso hfo hb2 hBk hB5 hsl
     go_wp2_with (first | (at_builtin;refine ja (P:=mu) py Tryz.underlying54 rfl (by decide) HLt.out (f.number,f.cols) #[.int .i64 f.number,.slice sp f.cols.length sc] rfl (by intro a ha;simp at ha;rcases ha with rfl | rfl <;> rfl) HSti.out HBk.out (by omega) (by omega) (by have:=HS.out.below.size;have:=HB5.out.size;omega) rfl rfl rfl rfl rfl ?_;(intro g2 cap2 w5 hl5 ha5 _);(have HN:=yQ (HS.out.more HB5.out HSn.out hl5 ha5));(clear hl5 ha5)) | fail)
     go_roundw
     case rel=>exact⟨t+1,by omega,by go_num,by rw[HTk.out];exact HN⟩
     case measure=>simp[intOf];omega
    ·have g2:(f.kind==1)=false:=bf hk
     have HN:=yQ (HS.out.skip (r:=(k,ls)) (HBd.out.trans (HB4.out.mono HBd.out.size)) (r5 hd hk))
     clear hd hk hso hfo hb2
     go_wp2
     go_roundw
     case rel=>exact⟨t+1,by omega,by go_num,by rw[HTk.out];exact HN⟩
     case measure=>simp[intOf];omega
  ·have hjn:¬(t:Int)<(rs.length:Int):=by omega
   obtain rfl:t=rs.length:=by omega
   have hs:=HS.out
   rw[List.take_length] at hs
   obtain⟨q2,c2,hv2,hsc⟩:=hs.rows.schs
   subst hv2
   have hsl:=Sv.said_le rs
   have HU:=yQ (jc (Sv.said rs) q2 c2 wr wr (by omega) yZ hsc (fun p hp=>by have:=(Sv.said_good rs p hp).1;exact⟨by omega,by omega⟩))
   have HBw:=yQ (HB1.out.trans (hs.below.mono HB1.out.size))
   clear htl hs hsc
   go_wp2_with fail
   refine HU.out.mono ?_
   rintro e w2 ⟨M,n,g,rfl,hkm,hn,-,hse,hb2⟩
   have HRi:=yQ (uz w2 M n g (Sv.sure (Sv.said rs)) hkm (by omega) (hse.on hb2))
   have HB2:=yQ (HBw.out.trans (hb2.mono HBw.out.size))
   clear hkm hse hb2 HU
   go_wp2_with fail
   refine HRi.out.mono ?_
   rintro e w3 ⟨l,q3,d3,rfl,h1,h2,h3,h4,h5⟩
   have HZ:=yQ (And.intro h1 (And.intro h2 (And.intro h3 (And.intro h4 (HB2.out.trans (h5.mono HB2.out.size))))))
   clear h1 h2 h3 h4 h5 HRi
   go_wp2
   go_ret
   exact⟨l,q3,d3,rfl,HZ.out.1,HZ.out.2.1,HZ.out.2.2.1,HZ.out.2.2.2.1,HZ.out.2.2.2.2⟩
end
end Go.Proofs.YtdgacombdcajmaaGreatDoor
