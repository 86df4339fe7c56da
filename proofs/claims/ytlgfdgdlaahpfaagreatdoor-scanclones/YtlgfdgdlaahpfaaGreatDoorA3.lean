import Derived.Test.YtlgfdgdlaahpfaaGreatDoorB38
import Derived.Test.YtlgfdgdlaahpfaaGreatDoorB32
import Derived.Test.YtlgfdgdlaahpfaaGreatDoorB13
set_option maxRecDepth 100000
set_option maxHeartbeats 1000000
namespace Go.Proofs.YtlgfdgdlaahpfaaGreatDoor
section
open Go.RowKit
attribute [local go_sem] ai
def an:Fr:={ Fr0 with kind:=1,cols:=[⟨⟨#[97]⟩,⟨2,[]⟩,false,V0⟩] }
theorem gQ:an.wf:=by
 refine⟨by simp[an,Fr.i64],by simp[an,Fr0,Fr.i64],?_,by simp[an,Fr0,Fr.i64],by simp[an,Fr0,Fr.i64],by simp[an,Fr0,Fr.i64],by simp[an,Fr0,j6,Fr.i64],by simp[an,Fr0,j6]⟩
 intro c hc
 simp[an] at hc
 subst hc
 exact⟨by decide,Ty.wf_mk.2 ⟨by omega,fun x hx=>by cases hx⟩,Sch.v0_wf⟩
theorem km(w:World)(k:Int)(p:OA)(c:Nat):ay w (al k p 0 c) (.mk k []):=.mk (xs:=[]) (fun _=>#[]) (by simp) (by simp) (fun hc=>absurd rfl hc) (fun j hj=>by simp at hj)
theorem ki(w:World)(k i:Int)(b:Nat)(t:ByteArray)(p:OA)(c:Nat):ax w (cells5 k i b t p 0 c) (.mk k i b t []):=.mk (xs:=[]) (fun _=>#[]) (by simp) (by simp) (fun hc=>absurd rfl hc) (fun j hj=>by simp at hj)
end
section
open Go.RowKit
attribute [local go_sem] ai
theorem lM:Sch.colErr [] ⟨⟨#[97]⟩,⟨2,[]⟩,false,V0⟩=0:=Sch.col_make (by kernel_rfl) rfl (Sch.ty_leaf (by omega) (by omega) (by omega)) (fun _=>Sch.v0_fix) (fun h=>by cases h)
theorem fT:Sch.bytes an.cols=[1,1,97,2,0]:=by
 unfold Sch.bytes an Sch.cB
 simp only[List.map_cons,List.map_nil,Sch.tyB_mk]
 kernel_rfl
theorem nP:Sch.err an.cols=0:=Sch.err_make (by decide) (by decide) (by
 show Sch.colsErr [] [⟨⟨#[97]⟩,⟨2,[]⟩,false,V0⟩]=0
 rw[Sch.colsErr,if_pos lM,Sch.colsErr]) (by rw[fT];decide)
theorem lL:Fr.err0 an=0:=by
 unfold Fr.err0
 rw[if_pos (show an.kind=1 from rfl),if_neg (by decide)]
 exact nP
theorem lK:Fr.head an=[1,0,1,1,97,2,0]:=by
 unfold Fr.head Fr.fields
 rw[if_pos (show an.kind=1 from rfl),fT]
 kernel_rfl
theorem dp:(Fr.run an).length=12:=by
 unfold Fr.run
 rw[lK]
 kernel_rfl
theorem fI:Fr.err an=0:=by
 unfold Fr.err
 rw[lL,if_neg (by decide),if_neg (by rw[dp];decide)]
theorem nQ:Fr.dec (Fr.run an)=.ok (Fr.norm an):=Fr.dec_run fI gQ.2.2.1
end
section
open Go.RowKit
def dq:AV:=#[.string ⟨#[97]⟩,.int .i64 2,.slice none 0 0,.bool false,.int .i64 0,.int .i64 0,.float .f64 0,.string ⟨#[]⟩,.slice none 0 0]
theorem kI{W:World}{b:Nat}(h1:W.1[b]?=some (.cells dq 89 (0,0))):bg W (some ⟨b,0,none⟩) an.cols:=by
 have h3:=aa h1
 intro j hj
 have hj2:j<1:=hj
 obtain rfl:j=0:=by omega
 refine⟨aA ⟨#[97]⟩ 2 none 0 0 false 0 0 0 ⟨#[]⟩ none 0 0,⟨2,none,0,0,0,0,0,⟨#[]⟩,none,0,0,rfl,km W 2 none 0,ki W 0 0 0 ⟨#[]⟩ none 0⟩,⟨b,0,⟨#[97]⟩,2,none,0,0,false,0,0,0,⟨#[]⟩,none,0,0,rfl,aw h1,rfl,?_⟩⟩
 exact⟨h3 0,h3 1,h3 2,h3 3,h3 4,h3 5,h3 6,h3 7,h3 8⟩
theorem sT(w:World):Calls Tryz.prog 16 #[] w fun e w'=>e=.returned (.agg #[.slice (some ⟨w.1.size+1,0,none⟩) 1 1])∧w'.1[w.1.size+1]?=some (.cells dq 89 (0,0))∧Below w.1.size w w'∧w'.1.size=w.1.size+2:=by
 obtain⟨W,hW⟩:∃W,W=(w.alloc (.cells #[.slice (some ⟨w.1.size+1,0,none⟩) 1 1] 30)).alloc (.cells dq 89):=⟨_,rfl⟩
 have h0:W.1[w.1.size]?=some (.cells #[.slice (some ⟨w.1.size+1,0,none⟩) 1 1] 30 (0,0)):=by rw[hW,aD _ _ (by simp)];exact ag w _
 have h1:W.1[w.1.size+1]?=some (.cells dq 89 (0,0)):=by
  rw[hW]
  have:=ag (w.alloc (.cells #[.slice (some ⟨w.1.size+1,0,none⟩) 1 1] 30)) (.cells dq 89)
  simpa using this
 have HB:Hid (Below w.1.size w W):=by rw[hW];exact vY.alloc (by simp) _
 have HZ:Hid (W.1.size=w.1.size+2):=by show _=_;rw[hW];simp
 have H1:=vQ h1
 have H0:=vQ h0
 have HW:Hid ((w.alloc (.cells #[.slice (some ⟨w.1.size+1,0,none⟩) 1 1] 30)).alloc (.cells #[.string ⟨#[97]⟩,.int .i64 2,.slice none 0 0,.bool false,.int .i64 0,.int .i64 0,.float .f64 0,.string ⟨#[]⟩,.slice none 0 0] 89)=W):=hW.symm
 clear h0 h1 hW
 go_enter Tryz.func16,Tryz.ntmps16
 go_wp2
 rw[HW.out]
 refine bodyPost_ret (results_cell_row rfl _ _ w.1.size _ _ _ _ rfl H0.out Tryz.underlying30 rfl (by kernel_rfl)) rfl ?_
 exact⟨rfl,H1.out,HB.out,HZ.out⟩
structure vm(w w':World)(l:L8)(g r:Nat)(v u:Value)(x k:Nat):Prop where
 dev:aE w' w.1.size g v { Dv.new 1048576 with b:=l,safe:=l.length } x k
 ref:cm w' w.1.size r u { Dv.new 1048576 with b:=l,safe:=l.length }
 below:Below w.1.size w w'
 apart:g≠r∧v.ownBlock≠some r∧u.ownBlock≠some g∧∀i,v.ownBlock=some i->u.ownBlock≠some i
end
section
open Go.RowKit
def aU:Fr:={ Fr0 with kind:=2,rows:=2,block:=[0,2,4] }
theorem jL:aU.wf:=by
 refine⟨by simp[aU,Fr.i64],by simp[aU,Fr0,Fr.i64],by simp[aU,Fr0],by simp[aU,Fr0,Fr.i64],by simp[aU,Fr0,Fr.i64],by simp[aU,Fr.i64],by simp[aU,Fr0,j6,Fr.i64],by simp[aU,Fr0,j6]⟩
theorem o8:Fr.err0 aU=0:=by
 unfold Fr.err0
 rw[if_neg (by decide),if_pos (show aU.kind=2 from rfl),if_neg (by decide)]
theorem ri:Fr.err aU=0:=by
 unfold Fr.err
 rw[if_neg (by rw[o8];decide)]
 have:(Fr.run aU).length<=2200:=by decide +kernel
 rw[if_neg (by omega)]
def wk1:Wk:=Sc.take Sc.new an 0
def wk2:Wk:=Sc.take wk1 aU 20
theorem qz:Sc.may Sc.new aU 0=false:=by
 unfold Sc.may
 rw[show Sc.follows Sc.new aU 0=false by unfold Sc.follows;rw[if_neg (by decide),if_pos (show aU.kind=2 from rfl)];decide]
 simp
theorem qs:Sc.may Sc.new an 0=true:=by
 unfold Sc.may
 rw[fI,show Sc.follows Sc.new an 0=true by unfold Sc.follows;rw[if_pos (show an.kind=1 from rfl),if_neg (by decide)];decide]
 decide
theorem qw:Sc.may wk1 aU 20=true:=by
 unfold Sc.may
 rw[ri,show Sc.follows wk1 aU 20=true by unfold Sc.follows;rw[if_neg (by decide),if_pos (show aU.kind=2 from rfl)];exact decide_eq_true ⟨rfl,rfl,rfl⟩]
 decide
theorem qu:Sc.may wk2 aU 40=false:=by
 unfold Sc.may
 rw[show Sc.follows wk2 aU 40=false by unfold Sc.follows;rw[if_neg (by decide),if_pos (show aU.kind=2 from rfl)];exact decide_eq_false (fun hc=>by have h2:(0:Int)=0+1:=hc.2.1;omega)]
 simp
theorem sg:Sc.next Sc.new aU 0=Sc.new:=by unfold Sc.next;rw[qz];rfl
theorem r9:Sc.next Sc.new an 0=wk1:=by unfold Sc.next;rw[qs];rfl
theorem sf:Sc.next wk1 aU 20=wk2:=by unfold Sc.next;rw[qw];rfl
theorem sd:Sc.next wk2 aU 40=wk2:=by unfold Sc.next;rw[qu];rfl
theorem pw:wk2.ents=[⟨20,0,0⟩]:=rfl
theorem rM:wk2.sch 0=some ⟨an.cols.map Col.fix,0⟩:=rfl
theorem pu:Sch.same (an.cols.map Col.fix) an.cols=true:=(Sch.same_fix _ _).2 (by rw[List.map_map];exact List.map_congr_left fun c _=>Fr.col_fix_idem c)
theorem so:Sc.at_ (0::(Fr.run an++[0])) 0=.ok (Fr.norm an,14):=by
 have hl:=dp
 have hx:((0::(Fr.run an++[0])).drop ((0:Int).toNat)).take 2202=0::(Fr.run an++0::[]):=by
  show(0::(Fr.run an++[0])).take 2202=_
  rw[List.take_of_length_le (by simp;omega)]
 unfold Sc.at_
 rw[if_neg (by simp;omega),if_neg (by simp;omega),hx,Sc.runOf_mk (fun hc=>by rw[hc] at hl;simp at hl) (Fr.run_nz an)]
 simp only[nQ]
 rw[hl]
 rfl
theorem qA:Sc.at_ (0::(Fr.run an++[0])) 14=.error 140:=by
 have hl:=dp
 unfold Sc.at_
 rw[if_neg (by simp;omega),if_pos (by simp;omega)]
end
section
open Go.RowKit
structure Lv(W:World)(S C D Y:Nat):Prop where
 s:W.1[S]?=some (.cells #[.int .i64 1,.int .i64 0,.slice (some ⟨C,0,none⟩) 1 1,.int .i64 0,.int .i64 0,.int .i64 0,.slice none 0 0,.int .i64 0,.int .i64 0,.int .i64 0,.slice none 0 0] 36 (0,0))
 c:W.1[C]?=some (.cells dq 89 (0,0))
 d:W.1[D]?=some (.cells #[.int .i64 2,.int .i64 0,.slice none 0 0,.int .i64 0,.int .i64 0,.int .i64 2,.slice (some ⟨Y,0,none⟩) 3 3,.int .i64 0,.int .i64 0,.int .i64 0,.slice none 0 0] 36 (0,0))
 y:W.1[Y]?=some (.cells #[.int .u8 0,.int .u8 2,.int .u8 4] 5 (0,0))
theorem Lv.flS{W:World}{S C D Y:Nat}(h:Lv W S C D Y):aB W #[.int .i64 1,.int .i64 0,.slice (some ⟨C,0,none⟩) 1 1,.int .i64 0,.int .i64 0,.int .i64 0,.slice none 0 0,.int .i64 0,.int .i64 0,.int .i64 0,.slice none 0 0] an :=
 ⟨some ⟨C,0,none⟩,1,none,0,none,0,rfl,by decide,by decide,kI h.c,by decide,by decide,.inl rfl,by decide,by decide,ee _ _⟩
theorem Lv.flD{W:World}{S C D Y:Nat}(h:Lv W S C D Y):aB W #[.int .i64 2,.int .i64 0,.slice none 0 0,.int .i64 0,.int .i64 0,.int .i64 2,.slice (some ⟨Y,0,none⟩) 3 3,.int .i64 0,.int .i64 0,.int .i64 0,.slice none 0 0] aU:=by
 refine⟨none,0,some ⟨Y,0,none⟩,3,none,0,rfl,by decide,by decide,fun j hj=>by simp[aU,Fr0] at hj,by decide,by decide,.inr ⟨Y,0,rfl,aw h.y,fun j hj=>?_⟩,by decide,by decide,ee _ _⟩
 have hj3:j<3:=hj
 have h3:=aa h.y
 rw[Nat.zero_add,h3 j]
 have:j=0∨j=1∨j=2:=by omega
 rcases this with rfl | rfl | rfl <;> rfl
theorem Lv.aside{W W':World}{S C D Y a M n B:Nat}{v:Value}{g:Int->Option Value}{s:Wk}{G:Nat->Prop}(h:Lv W S C D Y)(hk:ao W B a M n v g s G)(ha:Aside (aQ a M v) W W'):Lv W' S C D Y:=by
 have key:∀{i:Nat} {K:AV} {T:TypeId},W.1[i]?=some (.cells K T (0,0))->T≠64->T≠68->W'.1[i]?=some (.cells K T (0,0)):=fun {i K T} hi h1 h2=>by
  rw[ha.block i (aw hi) (fun hc=>?_)]
  ·exact hi
  ·rcases hc with hc | hc | hc
   ·rw[hc,hk.lies] at hi
    injection hi with hi
    injection hi with _ hi
    exact h2 hi.symm
   ·obtain⟨es,clock,hm⟩:=hk.map.obj
    rw[hc,hm] at hi
    cases hi
   ·exact iq hk.ents hi h1 hc
 exact⟨key h.s (by decide) (by decide),key h.c (by decide) (by decide),key h.d (by decide) (by decide),key h.y (by decide) (by decide)⟩
theorem Lv.on{W W':World}{S C D Y:Nat}(h:Lv W S C D Y)(hb:Below W.1.size W W'):Lv W' S C D Y :=
 ⟨(hb.block _ (aw h.s)).trans h.s,(hb.block _ (aw h.c)).trans h.c,(hb.block _ (aw h.d)).trans h.d,(hb.block _ (aw h.y)).trans h.y⟩
structure LvI(w W:World)(n:Nat)(st:Wk)(S C D Y:Nat):Prop where
 walk:∃v g,ao W w.1.size (w.1.size+1) w.1.size n v g st (fun _=>False)
 lv:Lv W S C D Y
 below:Below w.1.size w W
theorem LvI.on{w W W':World}{n:Nat}{st:Wk}{S C D Y:Nat}(h:LvI w W n st S C D Y)(hb:Below W.1.size W W'):LvI w W' n st S C D Y:=by
 obtain⟨v,g,hk⟩:=h.walk
 exact⟨⟨v,g,hk.on hb⟩,h.lv.on hb,h.below.trans (hb.mono h.below.size)⟩
theorem LvI.next{w W W':World}{n:Nat}{st st':Wk}{S C D Y:Nat}(h:LvI w W n st S C D Y){v:Value}{g:Int->Option Value}(hk:ao W w.1.size (w.1.size+1) w.1.size n v g st (fun _=>False))(hp:bW W W' w.1.size (w.1.size+1) w.1.size (n+1) v st' (fun _=>False)):LvI w W' (n+1) st' S C D Y:=by
 obtain⟨v',g',h1,h2,-⟩:=hp.out
 exact⟨⟨v',g',h1⟩,h.lv.aside hk h2,h.below.trans (h2.below h.below.size (fun i hi hc=>by have:=hk.far hc;omega))⟩
theorem LvI.calls{w W:World}{n:Nat}{st:Wk}{S C D Y:Nat}(h:LvI w W n st S C D Y)(hv:Hv w)(hn:n<1000)(f:Fr)(hwf:f.wf)(u:AV)(hf:aB W u f)(pl:Int):Calls Tryz.prog 9 #[.pointer (some ⟨w.1.size+1,0,none⟩),.agg u,.int .i64 pl] W fun e w'=>e=.returned (.int .i64 (if Sc.may st f pl=true then 0 else 143))∧LvI w w' (n+1) (Sc.next st f pl) S C D Y:=by
 obtain⟨v,g,hk⟩:=h.walk
 exact(qH hk f hwf u hf pl (hv.next h.below) (by omega) h.below.size).mono fun e w' ⟨h1,h2⟩=>⟨h1,h.next hk h2⟩
end
end Go.Proofs.YtlgfdgdlaahpfaaGreatDoor
