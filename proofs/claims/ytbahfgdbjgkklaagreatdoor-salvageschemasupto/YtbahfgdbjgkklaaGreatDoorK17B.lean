import Derived.Test.YtbahfgdbjgkklaaGreatDoorL17A
import Derived.Test.YtbahfgdbjgkklaaGreatDoorB14
set_option maxRecDepth 100000
set_option maxHeartbeats 4000000
namespace Go.Proofs.YtbahfgdbjgkklaaGreatDoor
variable{B:Nat}{w w':World}{v:Value}
open Go.RowKit
def fM(w:World)(s:Int->Option (List Col))(g:Int->Option Value):Prop:=∀n,match s n with
 |none=>g n=none
 |some c=>∃p d,g n=some (.agg #[.slice p c.length d])∧bB w p d c
theorem fM.on{s:Int->Option (List Col)}{g:Int->Option Value}(h:fM w s g)(hb:Below w.1.size w w'):fM w' s g:=fun n=>by
 have:=h n;cases hs:s n with
 |none=>rw[hs] at this;exact this
 |some c=>
  rw[hs] at this;obtain⟨p,d,o,y⟩:=this;exact⟨p,d,o,y.on hb⟩
def il(P:OA->Nat->List Col->Prop)(w:World)(s:Int->Option (List Col))(g:Int->Option Value):Prop:=∀n,match s n with
 |none=>g n=none
 |some c=>∃p d,g n=some (.agg #[.slice p c.length d])∧bB w p d c∧P p d c
theorem il.sees{P:OA->Nat->List Col->Prop}{s:Int->Option (List Col)}{g:Int->Option Value}(h:il P w s g):fM w s g:=fun n=>by
 have:=h n;cases hs:s n with
 |none=>rw[hs] at this;exact this
 |some c=>
  rw[hs] at this;obtain⟨p,d,o,y,_⟩:=this;exact⟨p,d,o,y⟩
theorem il.on{P:OA->Nat->List Col->Prop}{s:Int->Option (List Col)}{g:Int->Option Value}(h:il P w s g)(hb:Below w.1.size w w'):il P w' s g:=fun n=>by
 have:=h n;cases hs:s n with
 |none=>rw[hs] at this;exact this
 |some c=>
  rw[hs] at this;obtain⟨p,d,o,y,z⟩:=this;exact⟨p,d,o,y.on hb,z⟩
def fO(w:World)(B:Nat)(v:Value)(ds:List Int):Prop:=Lot 2 1 (fun m u _=>u=[.int .i64 m]) w B v ds
theorem w8:(Tryz.prog.info? 2).map (fun i=>(i.zero,i.size,i.bytes))=some (some (.int .i64 0),1,8):=by kernel_rfl
theorem fO.aside{F:Nat->Prop}{ds:List Int}(h:fO w B v ds)(o:Aside F w w')(z:∀i,v.ownBlock=some i->¬F i):fO w' B v ds:=Lot.aside h o z fun _ _ y=>fun _ _=>y.here
theorem fO.blk{ds:List Int}(h:fO w B v ds){i:Nat}(o:v.ownBlock=some i):∃C,w.1[i]?=some (.cells C 2 (0,0)):=by
 obtain⟨us,_,_,z,_⟩:=h.out;rcases z.2 with ⟨rfl,_⟩ | ⟨g,cap,y,rfl,_,D,_⟩
 ·cases o
 ·injection o with o;rw[<-o];exact⟨y,D⟩
structure U17(P:OA->Nat->List Col->Prop)(w0 w wr:World)(l:List (Int×List Col))(M t n:Nat)(g:Int->Option Value)(v:Value)(ds:List Int):Prop where
 map:KM wr M n g
 few:n<=t
 sees:il P w0 (Sv.first (l.take t)) g
 nums:fO wr w.1.size v ds
 dfew:ds.length<=t
 bad:∀m,m∈ds↔Sv.bad (l.take t) m=true
 i64:∀m∈ds,Fr.i64 m
 below:Below w.1.size w wr
section
variable {P:OA->Nat->List Col->Prop} {w0 w wr W W':World} {l:List (Int×List Col)} {M t n:Nat} {g:Int->Option Value} {v:Value} {ds:List Int} {xn:Int} {xc:List Col}
theorem eH(h:t<l.length)(o:l[t]=(xn,xc)):l.take (t+1)=l.take t++[(xn,xc)]:=by rw[List.take_succ_eq_append_getElem h,o]
theorem U17.off(h:U17 P w0 w wr l M t n g v ds):v.ownBlock≠some M:=fun y=>by
 obtain⟨C,o⟩:=h.nums.blk y;exact h.map.off o rfl
theorem U17.fresh(h:U17 P w0 w wr l M t n g v ds)(O:w.1.size<=M)(J:t<l.length)(K:l[t]=(xn,xc))(D:Sv.first (l.take t) xn=none){p:OA}{d:Nat}(I:bB w0 p d xc∧P p d xc)(hb:Below wr.1.size wr W)(E:KM W' M (n+1) (fun k=>if k=xn then some (.agg #[.slice p xc.length d]) else g k))(y:Aside (fun k=>k=M) W W'):
  U17 P w0 w W' l M (t+1) (n+1) (fun k=>if k=xn then some (.agg #[.slice p xc.length d]) else g k) v ds:=by
 refine⟨E,by have:=h.few;omega,fun m=>?_,fO.aside (Lot.on h.nums hb) y (fun i L z=>h.off (by rw[L,z])),by have:=h.dfew;omega,fun m=>?_,h.i64,(h.below.trans (hb.mono h.below.size)).trans (y.below (by have:=h.below.size;have:=hb.size;omega) (fun k E z=>by omega))⟩
 ·rw[eH J K,Sv.first_snoc];dsimp only;by_cases o:m=xn
  ·subst o;rw[if_pos rfl,if_pos rfl,D];exact⟨p,d,rfl,I.1,I.2⟩
  ·rw[if_neg o,if_neg o];exact h.sees m
 ·rw[eH J K,Sv.bad_snoc,h.bad m];by_cases o:m=xn
  ·subst o;rw[D];simp
  ·simp[o]
theorem U17.again(h:U17 P w0 w wr l M t n g v ds)(z:t<l.length)(D:l[t]=(xn,xc)){c:List Col}(y:Sv.first (l.take t) xn=some c)(E:Sch.same c xc=true)(hb:Below wr.1.size wr W):U17 P w0 w W l M (t+1) n g v ds:=by
 refine⟨h.map.on hb,by have:=h.few;omega,fun m=>?_,Lot.on h.nums hb,by have:=h.dfew;omega,fun m=>?_,h.i64,h.below.trans (hb.mono h.below.size)⟩
 ·rw[eH z D,Sv.first_snoc];by_cases o:m=xn
  ·subst o;have:=h.sees m;rw[if_pos rfl,y];rw[y] at this;exact this
  ·rw[if_neg o];exact h.sees m
 ·rw[eH z D,Sv.bad_snoc,h.bad m];by_cases o:m=xn
  ·subst o;rw[y];simp[E]
  ·simp[o]
theorem U17.doubt(h:U17 P w0 w wr l M t n g v ds)(D:t<l.length)(E:l[t]=(xn,xc))(L:Fr.i64 xn){c:List Col}(y:Sv.first (l.take t) xn=some c)(K:Sch.same c xc=false)(hb:Below wr.1.size wr W){v':Value}(J:fO W' w.1.size v' (ds++[xn]))(z:Aside (fun i=>v.ownBlock=some i) W W'):U17 P w0 w W' l M (t+1) n g v' (ds++[xn]):=by
 refine⟨(h.map.on hb).aside z h.off,by have:=h.few;omega,fun m=>?_,J,by have:=h.dfew;simp;omega,fun m=>?_,fun m o=>?_,(h.below.trans (hb.mono h.below.size)).trans (z.below (by have:=h.below.size;have:=hb.size;omega) (fun k O I=>by have:=(Lot.lt h.nums k I).1;omega))⟩
 ·rw[eH D E,Sv.first_snoc];by_cases o:m=xn
  ·subst o;have:=h.sees m;rw[if_pos rfl,y];rw[y] at this;exact this
  ·rw[if_neg o];exact h.sees m
 ·rw[eH D E,Sv.bad_snoc,List.mem_append,h.bad m];by_cases o:m=xn
  ·subst o;rw[y];simp[K]
  ·simp[o]
 ·rcases List.mem_append.1 o with o | o
  ·exact h.i64 m o
  ·rw[List.mem_singleton.1 o];exact L
end
def Ad(P:OA->Nat->List Col->Prop)(w0 w:World)(l:List (Int×List Col))(e:Ending)(w':World):Prop:=∃M n g,e=.returned (.map (some M))∧KM w' M n g∧n<=l.length∧w.1.size<=M∧il P w0 (Sv.sure l) g∧Below w.1.size w w'
theorem jE(P:OA->Nat->List Col->Prop)(l:List (Int×List Col))(q:OA)(c:Nat)(w0 w:World)(c9:l.length<=2000000)(b1:Below w0.1.size w0 w)(b2:im P w0 q l)(cb:∀p∈l,Fr.i64 p.1):
  Calls Tryz.prog 33 #[.slice q l.length c] w (Ad P w0 w l):=by
 have cq:=gQq b2;have X:=gQq b1;have cn:=gQq cb;have da:=@run_makeMap Tryz.prog;have bT:Hid (U17 P w0 w (w.alloc (.map #[] 0)) l w.1.size 0 0 (fun _=>none) (.slice none 0 0) []):=⟨qW w,by omega,fun n=>by simp[Sv.first],fU _ _,by simp,fun m=>by simp[Sv.bad],by simp,gQy⟩;clear b2 cb b1;go_enter Tryz.func33,Tryz.ntmps33;go_wp2_with fail;go_loopw [4,14] (fun cw bj wr=>∃(t n:Nat) (g:Int->Option Value) (ds:List Int),t<=l.length∧bj=.int .i64 t∧Hid (U17 P w0 w wr l w.1.size t n g cw ds)) (fun _ bj _=>l.length-(intOf bj).toNat);case atStart=>exact⟨0,0,_,[],by omega,rfl,bT⟩
 case round=>
  obtain⟨t,n,g,ds,dc,rfl,HU⟩:=hrel;clear bT;by_cases J:t<l.length
  ·have dd:(t:Int)<(l.length:Int):=(by omega);obtain⟨b,o,p,L,ct,hb,U,V,y⟩:=cq.out t J;subst ct;obtain⟨xn,xc,bi⟩:∃xn xc,l[t]=(xn,xc):=⟨_,_,rfl⟩;have Q:=cn.out l[t] (List.getElem_mem J);rw[bi] at U V y Q;simp only at U V y Q;have a1:=gQq bi;have b0:=gQq Q;have bN:=gQq y;have a5:=X.out.trans (HU.out.below.mono X.out.size)
   replace U:=ae a5 U
   replace V:=ae a5 V
   have br:=gQq ((HU.out.map.on (gQz.alloc gQx (.cells #[.int .i64 xn,.slice p xc.length L] 31))).look Q);clear bi Q y a5;cases hf:Sv.first (l.take t) xn with
   |none=>
    have b9:g xn=none:=(by have:=HU.out.sees xn;rw[hf] at this;exact this);have aj:=br.out;rw[b9,show(none:Option Value).getD eB=.agg #[.slice none 0 0] from rfl,show(none:Option Value).isSome=false from rfl] at aj;have Y:=gQq hf;have co:=gQq (HU.out.map.on ((gQz.alloc gQx (.cells #[.int .i64 xn,.slice p xc.length L] 31)).alloc (by simp) (.cells #[.slice none 0 0] 29)));clear hf b9;go_wp2_with (first | (at_mapUpdate;refine tu co.out b0.out (by have:=HU.out.few;omega) (.agg #[.slice p xc.length L]) rfl rfl rfl rfl rfl ?_;intro di cd b6 I;have z:=gQq (HU.out.fresh gQx J a1.out Y.out bN.out (gQy.alloc (by simp) _) cd b6);clear cd b6 I) | fail);go_roundw;case rel=>exact⟨t+1,n+1,_,ds,by omega,by go_num,z⟩
    case measure=>simp[intOf];omega
   |some c1=>
    obtain⟨S,O,ca,be,-⟩:∃p d,g xn=some (.agg #[.slice p c1.length d])∧bB w0 p d c1∧P p d c1:=by have:=HU.out.sees xn;rw[hf] at this;exact this
    have aj:=br.out;rw[ca,show(some (Value.agg #[.slice S c1.length O])).getD eB=.agg #[.slice S c1.length O] from rfl,show(some (Value.agg #[.slice S c1.length O])).isSome=true from rfl] at aj;have Y:=gQq hf;obtain⟨a2,ab⟩:∃W,W=(wr.alloc (.cells #[.int .i64 xn,.slice p xc.length L] 31)).alloc (.cells #[.slice S c1.length O] 29):=⟨_,rfl⟩;have a6:Below wr.1.size wr a2:=(by rw[ab];exact gQy.alloc (by simp) _);have a4:=X.out.trans ((HU.out.below.trans (a6.mono HU.out.below.size)).mono X.out.size);have Z:=gQq (yf c1 xc S p O L a2 be.len (be.on a4).cols (bN.out.1.on a4).cols);have ci:a2.cell? ⟨wr.1.size,0,none⟩=some (.int .i64 xn):=(by rw[ab];simp);have bp:=gQq a6;have bX:=gQq ab;clear hf ca be ab a6 a4;go_wp2_with fail;rw[<-bX.out];refine Z.out.mono ?_;rintro e dh ⟨rfl,a7⟩;have z0:=ae a7 ci;have ak:=gQq (bp.out.trans (a7.mono bp.out.size));clear a7 Z ci aj U V bX;cases I:Sch.same c1 xc with
    |true=>
     have z:=gQq (HU.out.again J a1.out Y.out I ak.out);clear I;go_wp2;go_roundw;case rel=>exact⟨t+1,n,g,ds,by omega,by go_num,z⟩
     case measure=>simp[intOf];omega
    |false=>
     have a0:=gQq (ak.out.alloc ak.out.size (.cells #[.int .i64 xn] 2));have cf:=Lot.on HU.out.nums a0.out;have cp:=gQq cf;have Z:=gQq I;clear I cf;go_wp2_with (first | (at_builtin;refine iw w8 Tryz.underlying113 rfl (by decide) cp.out xn #[.int .i64 xn] rfl (by intro a b3;simp at b3;rw[b3];rfl) (fun _ _=>rfl) (am _ _) (by have:=HU.out.dfew;omega) (by have:=HU.out.dfew;omega) (by have:=HU.out.below.size;have:=a0.out.size;omega) rfl rfl rfl rfl rfl ?_;intro cy cap w5 ce b4 _;have z:=gQq (HU.out.doubt J a1.out b0.out Y.out Z.out a0.out ce b4);clear ce b4) | fail);go_roundw;case rel=>exact⟨t+1,n,g,ds++[xn],by omega,by go_num,z⟩
     case measure=>simp[intOf];omega
  ·have c7:¬(t:Int)<(l.length:Int):=(by omega);obtain rfl:t=l.length:=by omega
   obtain⟨df,cx,cv,c5⟩:=Lot.form HU.out.nums;subst cv;have c6:=HU.out.dfew;clear J;go_wp2_with fail;obtain⟨D,rfl⟩:∃D,D=wr:=⟨_,rfl⟩;have bs:Hid (KM D w.1.size n (fun k=>if k∈ds.take 0 then none else g k)∧Aside (fun i=>i=w.1.size) D D):=⟨HU.out.map.eq (fun m=>by simp),Aside.refl _ _⟩;go_loopw [45] (fun bk cj=>∃s:Nat,s<=ds.length∧bk=.int .i64 s∧Hid (KM cj w.1.size n (fun k=>if k∈ds.take s then none else g k)∧Aside (fun i=>i=w.1.size) D cj)) (fun bk _=>ds.length-(intOf bk).toNat);case atStart=>exact⟨0,by omega,rfl,bs⟩
   case round=>
    obtain⟨s,bc,rfl,K⟩:=hrel;clear bs;by_cases y:s<ds.length
    ·have db:(s:Int)<(ds.length:Int):=(by omega);obtain⟨cr,cap,u,bb,-,-,cs,-,b7,cg⟩:=Lot.cell HU.out.nums s y;injection bb with bb _ _;subst bb;have bn:=b7 0 (by omega);rw[cg,Nat.mul_one,Nat.add_zero] at bn;have z0:=(K.out.2.cell (p:=⟨cr,s,none⟩) cs (fun ah=>HU.out.off (by rw[<-ah];rfl))).trans bn;have bq:=gQq (HU.out.i64 ds[s] (List.getElem_mem y));have bO:Hid (ds.take (s+1)=ds.take s++[ds[s]]):=List.take_succ_eq_append_getElem y;obtain⟨a3,b8⟩:∃a3,a3=ds[s]:=⟨_,rfl⟩;rw[<-b8] at bq bO z0;clear b7 cg bn b8;go_wp2_with (first | (at_delete;refine tz K.out.1 bq.out rfl rfl rfl rfl ?_;intro ck cc b5 cu;have z:Hid (KM ck w.1.size n (fun k=>if k∈ds.take (s+1) then none else g k)∧Aside (fun i=>i=w.1.size) D ck):=⟨cc.eq (fun m=>by rw[bO.out];by_cases E:m=a3 <;> simp[E]),K.out.2.trans b5 (fun _ _ h=>h)⟩;clear cc b5 cu) | fail);go_roundw;case rel=>exact⟨s+1,by omega,by go_num,z⟩
     case measure=>simp[intOf];omega
    ·have c8:¬(s:Int)<(ds.length:Int):=(by omega);obtain rfl:s=ds.length:=by omega
     clear y;go_wp2;go_ret;have a9:=K.out.1;rw[List.take_length] at a9;refine⟨_,n,_,rfl,a9,by have:=HU.out.few;omega,gQx,fun m=>?_,HU.out.below.trans (K.out.2.below HU.out.below.size (fun k a9 ah=>by omega))⟩;have bc:=HU.out.sees m;have a8:=HU.out.bad m;rw[List.take_length] at bc a8;rw[Sv.sure_eq];dsimp only;by_cases E:m∈ds
     ·rw[if_pos E,if_pos (a8.1 E)]
     ·rw[if_neg E,if_neg (fun ah=>E (a8.2 ah))];exact bc
def zN(w0 w:World)(l:List (Int×List Col))(e:Ending)(w':World):Prop:=∃M n g,e=.returned (.map (some M))∧KM w' M n g∧n<=l.length∧w.1.size<=M∧fM w0 (Sv.sure l) g∧Below w.1.size w w'
theorem pa(l:List (Int×List Col))(q:OA)(c:Nat)(w0 w:World)(O:l.length<=2000000)(o:Below w0.1.size w0 w)(K:eV w0 q l)(L:∀p∈l,Fr.i64 p.1):
  Calls Tryz.prog 33 #[.slice q l.length c] w (zN w0 w l):=(jE _ l q c w0 w O o K.p L).mono fun _ _ ⟨M,n,g,y,z,D,E,I,J⟩=>⟨M,n,g,y,z,D,E,I.sees,J⟩
end Go.Proofs.YtbahfgdbjgkklaaGreatDoor
