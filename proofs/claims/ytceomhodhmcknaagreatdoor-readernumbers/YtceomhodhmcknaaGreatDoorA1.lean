import Derived.Test.YtceomhodhmcknaaGreatDoorA11
import Derived.Test.YtceomhodhmcknaaGreatDoorB15
set_option maxRecDepth 100000
set_option maxHeartbeats 2000000
namespace Go.Proofs.YtceomhodhmcknaaGreatDoor
variable{j x:Nat}{i n:Int}{X:Sc.Pos}
section
def ir(k:Int):Col:=⟨⟨#[97]⟩,.mk k [],false,V0⟩
def ay(k:Int):List Col:=[ir k]
section
variable {k:Int} (hk:k=2∨k=3)
include hk
theorem mX:Sch.colErr [] (ir k)=0:=Sch.col_make (by kernel_rfl) rfl (Sch.ty_leaf (by omega) (by omega) (by omega)) (fun _=>Sch.v0_fix) (fun h=>by cases h)
theorem eo:∀c∈ay k,c.wf:=by
 intro c hc
 unfold ay at hc
 rcases List.mem_cons.1 hc with rfl | hc
 ·exact⟨by show(⟨#[97]⟩:ByteArray).size<=_;decide,Ty.wf_mk.2 ⟨by omega,fun x hx=>by cases hx⟩,Sch.v0_wf⟩
 ·cases hc
theorem gC:Sch.bytes (ay k)=[1,1,97,UInt8.ofNat k.toNat,0]:=by
 unfold Sch.bytes ay ir Sch.cB
 simp only[List.map_cons,List.map_nil,Sch.tyB_mk]
 rcases hk with rfl | rfl <;> kernel_rfl
theorem dq:Sch.err (ay k)=0:=Sch.err_make (by show 0<1;decide) (by show 1<=16;decide) (by
 unfold ay
 rw[Sch.colsErr,if_pos (mX hk),Sch.colsErr]) (by rw[gC hk];show 5<=_;decide)
end
theorem ju(k:Int):(ay k).map Col.fix=ay k:=by
 unfold ay ir Col.fix
 simp[V0,V.fix_mk,Sch.fixB_zero,V.fixL]
def bV(i:Int):List V:=[.mk 2 i 0 ⟨#[]⟩ []]
def cr:List (List V):=[bV 1,bV (-2)]
theorem io(i:Int)(h:-10<=i∧i<=10):∀v∈bV i,v.wf:=by
 intro v hv
 unfold bV at hv
 rcases List.mem_cons.1 hv with rfl | hv
 ·exact V.wf_mk.2 ⟨by omega,by omega,by omega,Nat.zero_le _,fun x hx=>by cases hx⟩
 ·cases hv
theorem pg:∀y∈cr,∀x∈y,x.wf:=by
 intro y hy
 unfold cr at hy
 rcases List.mem_cons.1 hy with rfl | hy
 ·exact io 1 (by omega)
 ·rw[List.mem_singleton.1 hy];exact io (-2) (by omega)
theorem pj(i:Int):(bV i).map V.fix=bV i:=by
 unfold bV
 simp only[List.map_cons,List.map_nil,V.fix_mk,Sch.fixB_zero,V.fixL]
theorem oB:Leb.put (Leb.zig 1)=[2]∧Leb.put (Leb.zig (-2))=[3]:=by constructor <;> kernel_rfl
theorem gB(i:Int):Rw.bytes (bV i)=Leb.put (Leb.zig i):=by
 unfold Rw.bytes bV
 simp only[List.map_cons,List.map_nil,Sch.vB_mk]
 simp[Sch.vH]
theorem di:Bt.bytes cr=[2,3]:=by
 unfold cr
 simp only[Bt.bytes,gB,oB.1,oB.2]
 rfl
theorem jp(i:Int)(hl:(Leb.put (Leb.zig i)).length<=20):Rw.err (ay 2) (bV i)=0:=Rw.err_make (dq (.inl rfl)) rfl (by
 have h1:Rw.vErr (.mk 2 []) (.mk 2 i 0 ⟨#[]⟩ [])=0:=Rw.vErr_make (Sch.ty_leaf (by omega) (by omega) (by omega)) (Sch.chk_make (by omega) (by unfold V.ownB;simp[Sch.fixB_zero]) (Nat.zero_le _) (by simp) (fun h=>by cases h) (fun x hx=>by cases hx)) (by rw[Sch.of_mk];rfl)
 unfold ay bV ir
 rw[Rw.colsErr,if_pos h1,Rw.colsErr]
 ·intro c s v r h;cases h) (by rw[gB];omega)
theorem im:Bt.rowsErr (ay 2) cr=0:=by
 unfold cr
 rw[Bt.rowsErr,if_pos (jp 1 (by rw[oB.1];decide)),Bt.rowsErr,if_pos (jp (-2) (by rw[oB.2];decide)),Bt.rowsErr]
theorem sB:Bt.err (ay 2) cr=0:=Bt.err_make (Bt.numErr_make (dq (.inl rfl)) (by decide) (by decide)) im (by rw[di];decide)
theorem wA:Blk.unpack [0,2,3]=⟨0,[2,3]⟩:=by kernel_rfl
theorem ig:Bt.unpack (ay 2) [0,2,3] 2=.ok cr:=by
 have h:=Bt.whole_put im pg
 rw[di] at h
 unfold Bt.unpack
 rw[if_neg (by rw[Bt.numErr_make (dq (.inl rfl)) (by decide) (by decide)];decide),wA,if_neg (by decide)]
 show Bt.whole (ay 2) [2,3] 2=_
 rw[show(2:Nat)=cr.length from rfl,h]
 unfold cr
 simp only[List.map_cons,List.map_nil,pj]
def bf:Fr:={ Fr0 with kind:=1,number:=0,cols:=ay 2 }
def bg:Fr:={ Fr0 with kind:=2,number:=0,seq:=0,first:=0,rows:=2,block:=[0,2,3] }
def i7:L8:=[2,1,5,1,1,97,2,5,138,89,228,197]
def pw:L8:=[2,2,1,1,2,2,7,2,3,167,35,49,38]
theorem jU:Fr.run bf=i7:=by
 have hh:Fr.head bf=[1,0,1,1,97,2,0]:=by
  unfold Fr.head Fr.fields
  rw[if_pos (show bf.kind=1 from rfl),show bf.cols=ay 2 from rfl,gC (.inl rfl)]
  kernel_rfl
 unfold Fr.run
 rw[hh]
 decide +kernel
theorem jV:Fr.run bg=pw:=by decide +kernel
theorem kl:Fr.err bf=0:=by
 have h0:Fr.err0 bf=0:=by
  unfold Fr.err0
  rw[if_pos (show bf.kind=1 from rfl),if_neg (by decide)]
  exact dq (.inl rfl)
 unfold Fr.err
 rw[h0,if_neg (by decide),if_neg (by rw[jU];decide)]
theorem km:Fr.err bg=0:=by
 have h0:Fr.err0 bg=0:=by
  unfold Fr.err0
  rw[if_neg (by decide),if_pos (show bg.kind=2 from rfl),if_neg (by decide)]
 unfold Fr.err
 rw[h0,if_neg (by decide),if_neg (by rw[jV];decide)]
theorem tN:Fr.dec i7=.ok bf:=by
 have h:=Fr.dec_run kl (eo (.inl rfl))
 have hn:Fr.norm bf=bf:=by
  unfold Fr.norm
  rw[if_pos (show bf.kind=1 from rfl)]
  show({ Fr0 with kind:=1,number:=0,cols:=(ay 2).map Col.fix }:Fr)=_
  rw[ju]
  rfl
 rw[jU,hn] at h
 exact h
theorem tO:Fr.dec pw=.ok bg:=by
 have h:=Fr.dec_run km (fun c hc=>by cases hc)
 rw[jV,show Fr.norm bg=bg from rfl] at h
 exact h
def bh:L8:=(0::(i7++[0]))++(0::(pw++[0]))
theorem vU:Sc.at_ bh (0:Nat)=.ok (bf,14):=by
 have h:Sc.runOf ((bh.drop ((0:Nat):Int).toNat).take 2202)=.ok i7:=by kernel_rfl
 unfold Sc.at_
 rw[if_neg (by decide),if_neg (by decide),h]
 simp only[tN]
 rfl
theorem vT:Sc.at_ bh (14:Nat)=.ok (bg,29):=by
 have h:Sc.runOf ((bh.drop ((14:Nat):Int).toNat).take 2202)=.ok pw:=by kernel_rfl
 unfold Sc.at_
 rw[if_neg (by decide),if_neg (by decide),h]
 simp only[tO]
 rfl
theorem wK:Sc.may Sc.new bf (0:Nat)=true:=by
 unfold Sc.may
 rw[kl]
 have:Sc.follows Sc.new bf ((0:Nat):Int)=true:=by
  unfold Sc.follows
  rw[if_pos (show bf.kind=1 from rfl),if_neg (by decide)]
  rfl
 rw[this]
 rfl
def oX:Wk:=Sc.take Sc.new bf (0:Nat)
theorem wJ:Sc.may oX bg (14:Nat)=true:=by
 unfold Sc.may
 rw[km]
 have:Sc.follows oX bg ((14:Nat):Int)=true:=by
  unfold Sc.follows
  rw[if_neg (by decide),if_pos (show bg.kind=2 from rfl)]
  rfl
 rw[this]
 rfl
theorem qT:Sc.schAt oX 0=ay 2:=by
 show(ay 2).map Col.fix=_
 exact ju 2
theorem rW:Sc.goes bh 0=some Sc.begin_:=rfl
theorem nA:Sc.goes bh 1=some (Rd.stepped bh Sc.begin_ bf 14):=Rd.Inv.step (tr:=id) Rd.inv_zero vU wK
theorem uJ:Sc.step bh (Rd.stepped bh Sc.begin_ bf 14)=.ok (Rd.stepped bh (Rd.stepped bh Sc.begin_ bf 14) bg 29):=by
 unfold Sc.step
 have h:=vT
 have h2:=wJ
 simp only[show(Rd.stepped bh Sc.begin_ bf 14).at_=14 from rfl,show(Rd.stepped bh Sc.begin_ bf 14).wk=oX from rfl,h]
 rw[if_pos h2]
 rfl
theorem nw:Sc.goes bh 2=some (Rd.stepped bh (Rd.stepped bh Sc.begin_ bf 14) bg 29):=Sc.goes_succ nA uJ
theorem qQ:Sc.step bh (Rd.stepped bh (Rd.stepped bh Sc.begin_ bf 14) bg 29)=.error 140:=Sc.step_end (by show 29=bh.length;decide)
theorem rq{n:Nat}{f:Fr}(h:Sc.goes bh j=some X)(ha:Sc.at_ bh X.at_=.ok (f,n))(hk:f.kind=2):f=bg∧X.wk=oX∧j=1∧n=29:=by
 have h2:=Sc.goes_once nw qQ h
 have h3:j=0∨j=1∨j=2:=by omega
 rcases h3 with rfl | rfl | rfl
 ·rw[rW] at h
  injection h with h
  subst h
  have h4:=vU.symm.trans ha
  injection h4 with h4
  injection h4 with h4 _
  rw[<-h4] at hk
  exact absurd hk (by decide)
 ·rw[nA] at h
  injection h with h
  subst h
  have h4:=vT.symm.trans ha
  injection h4 with h4
  injection h4 with h4 h5
  exact⟨h4.symm,rfl,rfl,h5.symm⟩
 ·rw[nw] at h
  injection h with h
  subst h
  unfold Sc.at_ at ha
  rw[if_neg (by decide),if_pos (by decide)] at ha
  cases ha
theorem ut{tr:List V->List V}{er:Nat}{ts:List Tl}(h:Rd.Inv tr bh j X ts)(he:Rd.End bh X er):er=140∧ts=[⟨0,0,tr (bV 1)⟩,⟨1,0,tr (bV (-2))⟩]:=by
 rcases he with he | ⟨f,n,h1,h2,h3,h4⟩
 ·obtain⟨rfl,rfl,rfl⟩:=Sc.goes_uniq h.goes he nw qQ
  refine⟨rfl,?_⟩
  rw[h.told,Rd.told_succ nA vT,Rd.told_succ rW vU,Rd.one,Rd.one,if_pos (show bg.kind=2 from rfl),if_neg (by decide)]
  show(match Bt.unpack (Sc.schAt oX 0) [0,2,3] 2 with
   |.error _=>[]
   |.ok ys=>Rd.rows tr 0 0 ys)=_
  rw[qT,ig]
  rfl
 ·obtain⟨rfl,hx,-,-⟩:=rq h.goes h1 h3
  rw[hx,show bg.number=0 from rfl,qT,show bg.block=[0,2,3] from rfl,show bg.rows=2 from rfl,ig] at h4
  cases h4
end
section
open Go.RowKit
structure Flo(n:Int)(x:Nat):Prop where
 lo:(FloatKind.f64.format.order 14114281232179134464 x==some .lt||FloatKind.f64.format.order 14114281232179134464 x==some .eq)=true
 hi:(FloatKind.f64.format.order x 4890909195324358656==some .lt)=true
 nz:((aH x:Int)==9223372036854775808)=false
 val:floatToIntVal .f64 x .i64=some n
 of:floatOfInt .f64 n=x
 eq:(FloatKind.f64.format.order x x != some .eq)=false
theorem wX:Flo 1 4607182418800017408:=⟨by kernel_rfl,by kernel_rfl,by kernel_rfl,by kernel_rfl,by kernel_rfl,by kernel_rfl⟩
theorem vz:Flo (-2) 13835058055282163712:=⟨by kernel_rfl,by kernel_rfl,by kernel_rfl,by kernel_rfl,by kernel_rfl,by kernel_rfl⟩
theorem vo(h:Flo n x)(w:World):Calls Tryz.prog 205 #[.float .f64 x] w fun e w'=>e=.returned (.bool false)∧w'=w:=by
 have h0:=h.nz
 clear h
 go_enter Tryz.func205,Tryz.ntmps205
 go_wp2_with (go_at_call 153;refine(cJ _ _).mono ?_;rintro e w' ⟨rfl,rfl⟩)
 go_ret
 exact⟨rfl,rfl⟩
theorem s9(h:Flo n x)(w:World):Calls Tryz.prog 202 #[.float .f64 x] w fun e w'=>e=.returned (.tuple #[.int .i64 n,.int .i64 0])∧w'=w:=by
 have h1:=h.lo
 have h2:=h.hi
 have hc:∀w,(convert 45 2 (.float .f64 x)).run Tryz.prog w=.ok (.int .i64 n) w:=fun w=>run_convert_float_int w 45 2 .f64 .i64 x n (by rw[Tryz.underlying45];rfl) Tryz.underlying2 h.val
 have hb:(FloatKind.f64.format.order (floatOfInt .f64 n) x != some .eq)=false:=by rw[h.of];exact h.eq
 have HZ:=xQ (fun w=>vo h w)
 clear h
 go_enter Tryz.func202,Tryz.ntmps202
 go_wp2_with (go_at_call 205;refine(HZ.out _).mono ?_;rintro e w' ⟨rfl,rfl⟩)
 go_ret2
 exact⟨rfl,rfl⟩
theorem pV(h:Flo n x)(w:World):Calls Tryz.prog 201 #[.int .i64 n] w fun e w'=>e=.returned (.tuple #[.float .f64 x,.int .i64 0])∧w'=w:=by
 have ho:=h.of
 have HT:Hid (∀w,Calls Tryz.prog 202 #[.float .f64 (floatOfInt .f64 n)] w fun e w'=>e=.returned (.tuple #[.int .i64 n,.int .i64 0])∧w'=w):=fun w=>by rw[ho];exact s9 h w
 have HO:=xQ ho
 have hn:(n != n)=false:=by simp
 clear h ho
 go_enter Tryz.func201,Tryz.ntmps201
 go_wp2_with (go_at_call 202;refine(HT.out _).mono ?_;rintro e w' ⟨rfl,rfl⟩)
 go_ret2
 exact⟨by rw[HO.out];rfl,rfl⟩
end
section
open Go.RowKit
theorem tI(a b c d:Int)(w:World):(Op.equalIn 10000 264 (.agg #[.int .i64 a,.int .i64 b]) (.agg #[.int .i64 c,.int .i64 d])).run Tryz.prog w=.ok (a==c&&b==d) w:=by
 have u3:=Tryz.underlying3
 have a3:=Tryz.isAgg3
 have z3:=Tryz.sizeOf3
 rw[show(10000:Nat)=9999+1 from rfl,Op.equalIn]
 simp only[Sem.run_bind,run_underlying Tryz.underlying264,Result.andThen_ok]
 simp only[Std.Legacy.Range.forIn_eq_forIn_range',Std.Legacy.Range.size,Nat.sub_zero,Nat.add_sub_cancel,Nat.div_one,List.range'_succ,List.range'_zero,List.forIn_cons,List.forIn_nil]
 go_simp
 by_cases h1:a=c <;> by_cases h2:b=d <;> simp[h1,h2]
attribute [local go_sem] tI af
theorem iB(w:World):Calls Tryz.prog 186 #[.agg #[.int .i64 2,.int .i64 3]] w fun e w'=>e=.returned (.bool false)∧Below w.1.size w w':=by
 have HB:Hid (Below w.1.size w (w.alloc (.cells #[.int .i64 2,.int .i64 3] 264))):=xY
 go_enter Tryz.func186,Tryz.ntmps186
 go_wp2
 go_ret
 exact⟨rfl,HB.out⟩
theorem iN(w:World):Calls Tryz.prog 200 #[.agg #[.int .i64 2,.int .i64 3]] w fun e w'=>e=.returned (.bool true)∧Below w.1.size w w':=by
 have HB:Hid (Below w.1.size w (w.alloc (.cells #[.int .i64 2,.int .i64 3] 264))):=xY
 go_enter Tryz.func200,Tryz.ntmps200
 go_wp2
 go_ret
 exact⟨rfl,HB.out⟩
theorem qp(p q:OA)(c d:Nat)(w:World):Calls Tryz.prog 185 #[.agg #[.int .i64 2,.slice p 0 c],.agg #[.int .i64 3,.slice q 0 d]] w fun e w'=>e=.returned (.bool true)∧Below w.1.size w w':=by
 obtain⟨W0,hW0⟩:∃W0,W0=((w.alloc (.cells #[.int .i64 2,.slice p 0 c] 88)).alloc (.cells #[.int .i64 3,.slice q 0 d] 88)).alloc (.cells #[.int .i64 2,.int .i64 3] 264):=⟨_,rfl⟩
 obtain⟨l0,l1,l2,lb,ls⟩:=al3 w (.cells #[.int .i64 2,.slice p 0 c] 88) (.cells #[.int .i64 3,.slice q 0 d] 88) (.cells #[.int .i64 2,.int .i64 3] 264)
 rw[<-hW0] at l0 l1 l2 lb ls
 have HB0:=xQ lb
 have HCl:Hid (∀w',Below W0.1.size W0 w'->w'.cell? ⟨w.1.size,0,none⟩=some (.int .i64 2)∧w'.cell? ⟨w.1.size+1,0,none⟩=some (.int .i64 3)∧w'.cell? ⟨w.1.size+1+1,0,none⟩=some (.int .i64 2)∧w'.cell? ⟨w.1.size+1+1,1,none⟩=some (.int .i64 3)):=fun w' h=>⟨aA l0 h 0,aA l1 h 0,aA l2 h 0,aA l2 h 1⟩
 have HW0:=xQ hW0
 have HBo:=xQ (iB W0)
 clear l0 l1 l2 lb ls hW0
 go_enter Tryz.func185,Tryz.ntmps185
 go_wp2_with fail
 rw[<-HW0.out]
 clear HW0
 refine HBo.out.mono ?_
 rintro e w1 ⟨rfl,hb1⟩
 have HB1:=xQ (HB0.out.trans (hb1.mono HB0.out.size))
 obtain⟨c0,c2,c4,c5⟩:=HCl.out w1 hb1
 clear hb1 HBo HCl
 go_wp2_with fail
 refine(iN _).mono ?_
 rintro e w2 ⟨rfl,hb2⟩
 have HB2:=xQ (HB1.out.trans (hb2.mono HB1.out.size))
 clear hb2
 go_wp2
 go_ret
 exact⟨rfl,HB2.out⟩
def F16(x:Nat):V:=.mk 3 0 x ⟨#[]⟩ []
theorem lE(hF:Flo i x)(b:Nat)(t:ByteArray)(p:OA)(n c:Nat)(w:World):Calls Tryz.prog 188 #[.agg #[.int .i64 2,.int .i64 3],.agg (cells5 2 i b t p n c)] w fun e w'=>e=.returned (.tuple #[.agg (cells5 3 0 x ⟨#[]⟩ none 0 0),.int .i64 0])∧Below w.1.size w w':=by
 unfold cells5
 have HF:Hid (∀w,Calls Tryz.prog 201 #[.int .i64 i] w fun e w'=>e=.returned (.tuple #[.float .f64 x,.int .i64 0])∧w'=w):=fun w=>pV hF w
 clear hF
 go_enter Tryz.func188,Tryz.ntmps188
 go_wp2_with fail
 refine(HF.out _).mono ?_
 rintro e w1 ⟨rfl,hw1⟩
 rw[hw1]
 clear hw1 w1
 go_wp2
 refine bodyPost_ret (aB rfl _ _ (w.1.size+1+1) _ _ _ _ rfl (al4 w _ _ _ _).2.2.1 Tryz.underlying47 rfl (by kernel_rfl)) rfl ?_
 exact⟨rfl,(al4 w _ _ _ _).2.2.2.2.1⟩
theorem uO(hF:Flo i x)(b:Nat)(t:ByteArray)(p q s:OA)(n c d f:Nat)(w:World):Calls Tryz.prog 168 #[.agg #[.int .i64 2,.slice q 0 d],.agg #[.int .i64 3,.slice s 0 f],.agg (cells5 2 i b t p n c)] w fun e w'=>e=.returned (.tuple #[.agg (cells5 3 0 x ⟨#[]⟩ none 0 0),.int .i64 0])∧Below w.1.size w w':=by
 unfold cells5
 have HP:=xQ (fun w=>lE hF b t p n c w)
 unfold cells5 at HP
 obtain⟨W0,hW0⟩:∃W0,W0=((((w.alloc (.cells #[.int .i64 2,.slice q 0 d] 88)).alloc (.cells #[.int .i64 3,.slice s 0 f] 88)).alloc (.cells #[.int .i64 2,.int .i64 i,.float .f64 b,.string t,.slice p n c] 47)).alloc (.cells #[.int .i64 0,.int .i64 0,.float .f64 0,.string ⟨#[]⟩,.slice none 0 0] 47)).alloc (.cells #[.int .i64 2,.int .i64 3] 264):=⟨_,rfl⟩
 obtain⟨l0,l1,l2,l3,l4,lb,ls⟩:=al5 w (.cells #[.int .i64 2,.slice q 0 d] 88) (.cells #[.int .i64 3,.slice s 0 f] 88) (.cells #[.int .i64 2,.int .i64 i,.float .f64 b,.string t,.slice p n c] 47) (.cells #[.int .i64 0,.int .i64 0,.float .f64 0,.string ⟨#[]⟩,.slice none 0 0] 47) (.cells #[.int .i64 2,.int .i64 3] 264)
 rw[<-hW0] at l0 l1 l2 l3 l4 lb ls
 have HB0:=xQ lb
 have HCl:Hid (∀w',Below W0.1.size W0 w'->w'.cell? ⟨w.1.size,0,none⟩=some (.int .i64 2)∧w'.cell? ⟨w.1.size+1,0,none⟩=some (.int .i64 3)∧(w'.cell? ⟨w.1.size+1+1,0,none⟩=some (.int .i64 2)∧w'.cell? ⟨w.1.size+1+1,1,none⟩=some (.int .i64 i)∧w'.cell? ⟨w.1.size+1+1,2,none⟩=some (.float .f64 b)∧w'.cell? ⟨w.1.size+1+1,3,none⟩=some (.string t)∧w'.cell? ⟨w.1.size+1+1,4,none⟩=some (.slice p n c))∧w'.1[w.1.size+1+1+1]?=some (.cells #[.int .i64 0,.int .i64 0,.float .f64 0,.string ⟨#[]⟩,.slice none 0 0] 47 (0,0))∧w'.cell? ⟨w.1.size+1+1+1+1,0,none⟩=some (.int .i64 2)∧w'.cell? ⟨w.1.size+1+1+1+1,1,none⟩=some (.int .i64 3)):=fun w' h=>⟨aA l0 h 0,aA l1 h 0,⟨aA l2 h 0,aA l2 h 1,aA l2 h 2,aA l2 h 3,aA l2 h 4⟩,(h.block _ (ao l3)).trans l3,aA l4 h 0,aA l4 h 1⟩
 have HW0:=xQ hW0
 have HBo:=xQ (iB W0)
 clear hF l0 l1 l2 l3 l4 lb ls hW0
 go_enter Tryz.func168,Tryz.ntmps168
 go_wp2_with fail
 rw[<-HW0.out]
 clear HW0
 refine HBo.out.mono ?_
 rintro e w1 ⟨rfl,hb1⟩
 have HB1:=xQ (HB0.out.trans (hb1.mono HB0.out.size))
 have HB01:=xQ hb1
 obtain⟨c0,c1,⟨c2,c3,c4,c5,c6⟩,-,c7,c8⟩:=HCl.out w1 hb1
 clear hb1 HBo
 go_wp2_with fail
 refine(HP.out _).mono ?_
 rintro e w2 ⟨rfl,hb2⟩
 have HB2:=xQ (HB1.out.trans (hb2.mono HB1.out.size))
 obtain⟨-,-,-,hz,-⟩:=HCl.out w2 (HB01.out.trans (hb2.mono HB01.out.size))
 have HZ:=xQ hz
 obtain⟨y0,y1,y2,y3,y4⟩:=cQ5 hz
 have yf:=ac hz
 clear hb2 hz
 go_wp2
 refine bodyPost_ret (aB rfl _ _ (w.1.size+1+1+1) _ _ _ _ rfl (al (al (al (al (al HZ.out 0 _) 1 _) 2 _) 3 _) 4 _) Tryz.underlying47 rfl (by kernel_rfl)) rfl ?_
 exact⟨rfl,((((HB2.out.setCell (p:=⟨w.1.size+1+1+1,0,none⟩) (by simp;omega) _).setCell (p:=⟨w.1.size+1+1+1,1,none⟩) (by simp;omega) _).setCell (p:=⟨w.1.size+1+1+1,2,none⟩) (by simp;omega) _).setCell (p:=⟨w.1.size+1+1+1,3,none⟩) (by simp;omega) _).setCell (p:=⟨w.1.size+1+1+1,4,none⟩) (by simp;omega) _⟩
end
section
open Go.RowKit
attribute [local go_sem] af
theorem bw.one16{W:World}{p:OA}{k:Int}(h:bw W p (ay k)):∃b o tp tc vp vc,p=some ⟨b,o,none⟩∧b<W.1.size∧At9 W b o ⟨#[97]⟩ k tp 0 tc false 0 0 0 ⟨#[]⟩ vp 0 vc:=by
 obtain⟨b,o,k',tp,tn,tc,vk,vi,vb,vt,vp,vn,vc,h1,h2,h3,h4,h5⟩:=h.at 0 (by show 0<1;decide)
 obtain⟨p',c',e1,-⟩:=aL.open (xs:=[]) h4
 obtain⟨q',d',e2,-⟩:=aJ.open (k:=0) (i:=0) (b:=0) (t:=⟨#[]⟩) (xs:=[]) h5
 simp only[ar,cells5,Array.mk.injEq,List.cons.injEq,Value.slice.injEq,Value.int.injEq,Value.float.injEq,Value.string.injEq,and_true,true_and] at e1 e2
 obtain⟨rfl,rfl,rfl,rfl⟩:=e1
 obtain⟨rfl,rfl,rfl,rfl,rfl,rfl,rfl⟩:=e2
 rw[Nat.zero_mul,Nat.add_zero] at h3
 exact⟨b,o,_,_,_,_,h1,h2,h3⟩
theorem jd(p tp vp:OA)(cp tc vc:Nat)(w:World)(hx:bw w p (ay 2)):Calls Tryz.prog 166 #[.agg #[.slice p 1 cp],.agg #[.string ⟨#[97]⟩,.int .i64 3,.slice tp 0 tc,.bool false,.int .i64 0,.int .i64 0,.float .f64 0,.string ⟨#[]⟩,.slice vp 0 vc]] w fun e w'=>e=.returned (.int .i64 0)∧Below w.1.size w w':=by
 obtain⟨W0,hW0⟩:∃W0,W0=(w.alloc (.cells #[.slice p 1 cp] 53)).alloc (.cells #[.string ⟨#[97]⟩,.int .i64 3,.slice tp 0 tc,.bool false,.int .i64 0,.int .i64 0,.float .f64 0,.string ⟨#[]⟩,.slice vp 0 vc] 90):=⟨_,rfl⟩
 obtain⟨l0,l1,lb,ls⟩:=al2 w (.cells #[.slice p 1 cp] 53) (.cells #[.string ⟨#[97]⟩,.int .i64 3,.slice tp 0 tc,.bool false,.int .i64 0,.int .i64 0,.float .f64 0,.string ⟨#[]⟩,.slice vp 0 vc] 90)
 rw[<-hW0] at l0 l1 lb ls
 have HW0:=xQ hW0
 have HB0:=xQ lb
 have HCl:Hid (∀w',Below W0.1.size W0 w'->w'.cell? ⟨w.1.size,0,none⟩=some (.slice p 1 cp)∧w'.cell? ⟨w.1.size+1,0,none⟩=some (.string ⟨#[97]⟩)∧w'.cell? ⟨w.1.size+1,1,none⟩=some (.int .i64 3)∧w'.cell? ⟨w.1.size+1,2,none⟩=some (.slice tp 0 tc)∧w'.cell? ⟨w.1.size+1,3,none⟩=some (.bool false)):=fun w' h=>⟨aA l0 h 0,aA l1 h 0,aA l1 h 1,aA l1 h 2,aA l1 h 3⟩
 have HF:Hid (Calls Tryz.prog 48 #[.agg #[.slice p 1 cp],.string ⟨#[97]⟩] W0 fun e w'=>e=.returned (.tuple #[.int .i64 0,.bool true])∧Below W0.1.size W0 w'):=r7 (ay 2) ⟨#[97]⟩ p cp W0 (by show 1*120<=_;decide) (hx.on lb)
 have HX:=xQ hx
 clear hW0 l0 l1 lb ls hx
 go_enter Tryz.func166,Tryz.ntmps166
 go_wp2_with fail
 rw[<-HW0.out]
 clear HW0
 refine HF.out.mono ?_
 rintro e w1 ⟨rfl,hb1⟩
 have HB1:=xQ (HB0.out.trans (hb1.mono HB0.out.size))
 obtain⟨c0,c1,c2,c3,c4⟩:=HCl.out w1 hb1
 obtain⟨bx,ox,tp',tc',vp',vc',rfl,_,-,a1,a2,-⟩:=(HX.out.on HB1.out).one16
 clear hb1 HF HCl HX
 go_wp2_with fail
 go_region_held3 (fun w'=>w'.cell? ⟨w.1.size,0,none⟩=some (.slice (some ⟨bx,ox,none⟩) 1 cp)∧w'.cell? ⟨w.1.size+1,1,none⟩=some (.int .i64 3)∧w'.cell? ⟨w.1.size+1,2,none⟩=some (.slice tp 0 tc)∧w'.cell? ⟨bx,ox+1,none⟩=some (.int .i64 2)∧w'.cell? ⟨bx,ox+2,none⟩=some (.slice tp' 0 tc')) (go_keep) (first
  | (go_at_call 185;refine(qp _ _ _ _ _).mono ?_;rintro e w4 ⟨rfl,hb4⟩;have hb5:=cT (w:=w1) hb4 (by rfl) (by rfl) (by rfl) (by rfl);have z0:=ae hb5 c0;have z1:=ae hb5 c2;have z2:=ae hb5 c3;have z3:=ae hb5 a1;have z4:=ae hb5 a2;have HB4:=xQ (HB1.out.trans (hb5.mono HB1.out.size));clear hb4 hb5))
 go_wp2
 go_ret
 exact⟨rfl,HB4.out⟩
theorem tQ(p q:OA)(cp cq:Nat)(w:World)(hx:bw w p (ay 2))(hy:bw w q (ay 3)):
  Calls Tryz.prog 146 #[.agg #[.slice p 1 cp],.agg #[.slice q 1 cq]] w fun e w'=>e=.returned (.int .i64 0)∧Below w.1.size w w':=by
 obtain⟨W0,hW0⟩:∃W0,W0=(w.alloc (.cells #[.slice p 1 cp] 53)).alloc (.cells #[.slice q 1 cq] 53):=⟨_,rfl⟩
 obtain⟨l0,l1,lb,ls⟩:=al2 w (.cells #[.slice p 1 cp] 53) (.cells #[.slice q 1 cq] 53)
 rw[<-hW0] at l0 l1 lb ls
 have HW0:=xQ hW0
 have HB0:=xQ lb
 have HCl:Hid (∀w',Below W0.1.size W0 w'->w'.cell? ⟨w.1.size,0,none⟩=some (.slice p 1 cp)∧w'.cell? ⟨w.1.size+1,0,none⟩=some (.slice q 1 cq)):=fun w' h=>⟨aA l0 h 0,aA l1 h 0⟩
 have HCs:Hid (∀k p c w',k=2∨k=3->bw w' p (ay k)->Calls Tryz.prog 46 #[.agg #[.slice p 1 c]] w' fun e w''=>e=.returned (.int .i64 0)∧Below w'.1.size w' w''):=fun k p c w' hk h=>by
  have:=g9 (ay k) p c w' (by show 1*120<=_;decide) h (eo hk)
  rw[dq hk] at this
  exact this
 have HX:=xQ hx
 have HY:=xQ hy
 clear hW0 l0 l1 lb ls hx hy
 go_enter Tryz.func146,Tryz.ntmps146
 go_wp2_with fail
 rw[<-HW0.out]
 clear HW0
 refine(HCs.out 2 _ _ _ (.inl rfl) (HX.out.on HB0.out)).mono ?_
 rintro e w1 ⟨rfl,hb1⟩
 have HB1:=xQ hb1
 have HB1w:=xQ (HB0.out.trans (hb1.mono HB0.out.size))
 obtain⟨c0,c1⟩:=HCl.out w1 hb1
 clear hb1
 go_wp2_with fail
 refine(HCs.out 3 _ _ _ (.inr rfl) (HY.out.on HB1w.out)).mono ?_
 rintro e w2 ⟨rfl,hb2⟩
 have HB2:=xQ (HB1.out.trans (hb2.mono HB1.out.size))
 have HB2w:=xQ (HB1w.out.trans (hb2.mono HB1w.out.size))
 clear hb2 HCs c0 c1
 obtain⟨c0,c1⟩:=HCl.out w2 HB2.out
 go_wp2_with fail
 go_loopw [23] (fun v23 wr=>∃j:Nat,j<=1∧v23=.int .i64 j∧Hid (Below w2.1.size w2 wr)) (fun v23 _=>1-(intOf v23).toNat)
 case atStart=>exact⟨0,by omega,rfl,xZ⟩
 case round=>
  obtain⟨j,hj,rfl,HL⟩:=hrel
  have HBr:Hid (Below w.1.size w wr):=HB2w.out.trans (HL.out.mono HB2w.out.size)
  have HBr0:Hid (Below W0.1.size W0 wr):=HB2.out.trans (HL.out.mono HB2.out.size)
  by_cases hlt:j<1
  ·obtain rfl:j=0:=by omega
   obtain⟨bx,ox,tp,tc,vp,vc,rfl,_,h9⟩:=(HY.out.on HBr.out).one16
   obtain⟨a0,a1,a2,a3,a4,a5,a6,a7,a8⟩:=h9
   obtain⟨wa,hwa⟩:∃W,W=wr.alloc (.cells #[.string ⟨#[97]⟩,.int .i64 3,.slice tp 0 tc,.bool false,.int .i64 0,.int .i64 0,.float .f64 0,.string ⟨#[]⟩,.slice vp 0 vc] 90):=⟨_,rfl⟩
   have hba:Below wr.1.size wr wa:=by rw[hwa];exact xY
   have HBa:=xQ (HBr.out.trans (hba.mono HBr.out.size))
   have HBa2:=xQ (HL.out.trans (hba.mono HL.out.size))
   have HC:=xQ (jd p tp vp cp tc vc wa (HX.out.on HBa.out))
   have HC0:Hid (∀w',Below wr.1.size wr w'->w'.cell? ⟨w.1.size,0,none⟩=some (.slice p 1 cp)):=fun w' hb=>(HCl.out w' (HBr0.out.trans (hb.mono HBr0.out.size))).1
   have cc:=HC0.out wr xZ
   have cca:=fun o=>HC0.out (wr.alloc o) (xZ.alloc xX o)
   have HWa:=xQ hwa
   clear hwa hba HC0
   go_wp2_with fail
   rw[<-HWa.out]
   clear HWa cc cca a0 a1 a2 a3 a4 a5 a6 a7 a8
   refine HC.out.mono ?_
   rintro e w4 ⟨rfl,hb4⟩
   have HB42:=xQ (HBa2.out.trans (hb4.mono HBa2.out.size))
   clear hb4 HC
   go_wp2
   go_roundw
   case rel=>exact⟨1,by omega,by go_num,HB42⟩
   case measure=>simp[intOf]
  ·obtain rfl:j=1:=by omega
   clear hlt
   go_wp2
   go_ret
   exact⟨rfl,HBr.out⟩
end
section
open Go.RowKit
attribute [local go_sem] af
theorem kC(y:Ty)(x:V)(w:World)(u v:AV)(hy:aL w u y)(hx:aJ w v x):Calls Tryz.prog 167 #[.agg u,.agg v] w fun e w'=>e=.returned (.int .i64 (Rw.vErr y x:Nat))∧Below w.1.size w w':=by
 obtain⟨k',ys⟩:=y
 obtain⟨k,i,b,t,xs⟩:=x
 obtain⟨q,cq,rfl,-⟩:=hy.open
 obtain⟨p,c,rfl,-⟩:=hx.open
 obtain⟨W0,hW0⟩:∃W0,W0=(w.alloc (.cells (ar k' q ys.length cq) 88)).alloc (.cells (cells5 k i b t p xs.length c) 47):=⟨_,rfl⟩
 obtain⟨l0,l1,lb,ls⟩:=al2 w (.cells (ar k' q ys.length cq) 88) (.cells (cells5 k i b t p xs.length c) 47)
 rw[<-hW0] at l0 l1 lb ls
 have HB0:=xQ lb
 have HCv:=xQ (kF _ W0 _ (hx.on lb))
 have HIs:=xQ (fun w' (hb:Below w.1.size w w')=>isK (.mk k i b t xs) (.mk k' ys) w' _ _ (hx.on hb) (hy.on hb))
 have HE:Hid (Rw.vErr (.mk k' ys) (.mk k i b t xs)=if chk 1 (.mk k i b t xs)≠0 then chk 1 (.mk k i b t xs) else if Sch.is (.mk k i b t xs) (.mk k' ys) then 0 else 80):=rfl
 obtain⟨R,hR⟩:∃R,R=Rw.vErr (.mk k' ys) (.mk k i b t xs):=⟨_,rfl⟩
 rw[<-hR] at HE ⊢
 obtain⟨cv,hcv⟩:∃cv,cv=chk 1 (.mk k i b t xs):=⟨_,rfl⟩
 rw[<-hcv] at HCv HE
 obtain⟨si,hsi⟩:∃si,si=Sch.is (.mk k i b t xs) (.mk k' ys):=⟨_,rfl⟩
 rw[<-hsi] at HIs HE
 have HCl:Hid (∀w',Below W0.1.size W0 w'->(w'.cell? ⟨w.1.size,0,none⟩=some (.int .i64 k')∧w'.cell? ⟨w.1.size,1,none⟩=some (.slice q ys.length cq))∧w'.cell? ⟨w.1.size+1,0,none⟩=some (.int .i64 k)∧w'.cell? ⟨w.1.size+1,1,none⟩=some (.int .i64 i)∧w'.cell? ⟨w.1.size+1,2,none⟩=some (.float .f64 b)∧w'.cell? ⟨w.1.size+1,3,none⟩=some (.string t)∧w'.cell? ⟨w.1.size+1,4,none⟩=some (.slice p xs.length c)):=fun w' h=>⟨⟨aA l0 h 0,aA l0 h 1⟩,aA l1 h 0,aA l1 h 1,aA l1 h 2,aA l1 h 3,aA l1 h 4⟩
 unfold ar at hW0 HIs ⊢
 unfold cells5 at hW0 HCv HIs ⊢
 have HW0:=xQ hW0
 generalize xs.length=nx at *
 generalize ys.length=ny at *
 clear hR hcv hsi hW0 l0 l1 lb ls hx hy
 go_enter Tryz.func167,Tryz.ntmps167
 go_wp2_with fail
 rw[<-HW0.out]
 clear HW0
 refine HCv.out.mono ?_
 rintro e w1 ⟨rfl,hb1⟩
 have HB1:=xQ (HB0.out.trans (hb1.mono HB0.out.size))
 obtain⟨⟨c0,c1⟩,c2,c3,c4,c5,c6⟩:=HCl.out w1 hb1
 clear hb1 HCv HCl
 by_cases h0:cv=0
 ·have g0:((cv:Int) != 0)=false:=cg (by omega)
  have HE2:Hid (R=if si then 0 else 80):=by show _=_;rw[HE.out,if_neg (by omega)]
  clear h0 HE
  go_wp2_with fail
  refine(HIs.out w1 HB1.out).mono ?_
  rintro e w2 ⟨rfl,hb2⟩
  have HB2:=xQ (HB1.out.trans (hb2.mono HB1.out.size))
  clear hb2 HIs
  cases si with
  |true=>
   go_wp2
   go_ret
   exact⟨by rw[HE2.out];rfl,HB2.out⟩
  |false=>
   go_wp2
   go_ret
   exact⟨by rw[HE2.out];rfl,HB2.out⟩
 ·have g0:((cv:Int) != 0)=true:=bC (by omega)
  have HE2:Hid (R=cv):=by show _=_;rw[HE.out,if_pos h0]
  clear h0 HE
  go_wp2
  go_ret
  exact⟨by rw[HE2.out];rfl,HB1.out⟩
theorem aW.val16{w:World}{q:OA}{c:Nat}(h:aW w q c (bV i)):∃b o vp vc,q=some ⟨b,o,none⟩∧b<w.1.size∧aJ w (cells5 2 i 0 ⟨#[]⟩ vp 0 vc) (.mk 2 i 0 ⟨#[]⟩ [])∧w.cell? ⟨b,o,none⟩=some (.int .i64 2)∧w.cell? ⟨b,o+1,none⟩=some (.int .i64 i)∧w.cell? ⟨b,o+2,none⟩=some (.float .f64 0)∧w.cell? ⟨b,o+3,none⟩=some (.string ⟨#[]⟩)∧w.cell? ⟨b,o+4,none⟩=some (.slice vp 0 vc):=by
 obtain⟨u,h1,h2⟩:=h.items.2.2 0 (by show 0<1;decide)
 obtain⟨p',c',hu,-⟩:=aJ.open (xs:=[]) h1
 subst hu
 obtain⟨b,o,k',i',b',t',q',n',d',e1,e2,e3,e4,e5,e6,e7,e8⟩:=h2.lies
 simp only[cells5,Array.mk.injEq,List.cons.injEq,Value.slice.injEq,Value.int.injEq,Value.float.injEq,Value.string.injEq,and_true,true_and] at e3
 obtain⟨rfl,rfl,rfl,rfl,rfl,rfl,rfl⟩:=e3
 exact⟨b,o,_,_,e1,e2,h1,e4,e5,e6,e7,e8⟩
theorem uF(i:Int):Rw.vErr (.mk 2 []) (.mk 2 i 0 ⟨#[]⟩ [])=0:=Rw.vErr_make (Sch.ty_leaf (by omega) (by omega) (by omega)) (Sch.chk_make (by omega) (by unfold V.ownB;simp[Sch.fixB_zero]) (Nat.zero_le _) (by simp) (fun h=>by cases h) (fun x hx=>by cases hx)) (by rw[Sch.of_mk];rfl)
theorem ta(w:World)(k:Int)(p:OA)(c:Nat):aL w (ar k p 0 c) (.mk k []):=.mk (xs:=[]) (fun _=>#[]) (by simp) (by simp) (fun hc=>absurd rfl hc) (fun j hj=>by simp at hj)
theorem nO(i:Int)(p q:OA)(cp cq:Nat)(w:World)(hx:bw w p (ay 2))(hy:aW w q cq (bV i)):
  Calls Tryz.prog 147 #[.agg #[.slice p 1 cp],.agg #[.slice q 1 cq]] w fun e w'=>e=.returned (.int .i64 0)∧Below w.1.size w w':=by
 obtain⟨W0,hW0⟩:∃W0,W0=(w.alloc (.cells #[.slice p 1 cp] 53)).alloc (.cells #[.slice q 1 cq] 35):=⟨_,rfl⟩
 obtain⟨l0,l1,lb,ls⟩:=al2 w (.cells #[.slice p 1 cp] 53) (.cells #[.slice q 1 cq] 35)
 rw[<-hW0] at l0 l1 lb ls
 have HW0:=xQ hW0
 have HB0:=xQ lb
 have HCl:Hid (∀w',Below W0.1.size W0 w'->w'.cell? ⟨w.1.size,0,none⟩=some (.slice p 1 cp)∧w'.cell? ⟨w.1.size+1,0,none⟩=some (.slice q 1 cq)):=fun w' h=>⟨aA l0 h 0,aA l1 h 0⟩
 have HX:=xQ hx
 have HY:=xQ hy
 obtain⟨c0,c1⟩:=HCl.out W0 xZ
 clear hW0 l0 l1 lb ls hx hy
 go_enter Tryz.func147,Tryz.ntmps147
 go_wp2_with fail
 rw[<-HW0.out]
 clear HW0 c0 c1
 go_loopw [18] (fun v18 wr=>∃j:Nat,j<=1∧v18=.int .i64 j∧Hid (Below W0.1.size W0 wr)) (fun v18 _=>1-(intOf v18).toNat)
 case atStart=>exact⟨0,by omega,rfl,xZ⟩
 case round=>
  obtain⟨j,hj,rfl,HL⟩:=hrel
  have HBr:Hid (Below w.1.size w wr):=HB0.out.trans (HL.out.mono HB0.out.size)
  by_cases hlt:j<1
  ·obtain rfl:j=0:=by omega
   obtain⟨bx,ox,tp,tc,vp,vc,rfl,_,a0,a1,a2,a3,a4,a5,a6,a7,a8⟩:=(HX.out.on HBr.out).one16
   obtain⟨by',oy,qy,cy,rfl,_,hv,b0,b1,b2,b3,b4⟩:=(HY.out.on HBr.out).val16
   obtain⟨wa,hwa⟩:∃W,W=wr.alloc (.cells #[.string ⟨#[97]⟩,.int .i64 2,.slice tp 0 tc,.bool false,.int .i64 0,.int .i64 0,.float .f64 0,.string ⟨#[]⟩,.slice vp 0 vc] 90):=⟨_,rfl⟩
   have hba:Below wr.1.size wr wa:=by rw[hwa];exact xY
   have hblk:wa.1[wr.1.size]?=some (.cells #[.string ⟨#[97]⟩,.int .i64 2,.slice tp 0 tc,.bool false,.int .i64 0,.int .i64 0,.float .f64 0,.string ⟨#[]⟩,.slice vp 0 vc] 90 (0,0)):=by rw[hwa];exact ap wr _
   have HBa2:=xQ (HL.out.trans (hba.mono HL.out.size))
   have HC:Hid (∀w',Below wa.1.size wa w'->Calls Tryz.prog 167 #[.agg #[.int .i64 2,.slice tp 0 tc],.agg #[.int .i64 2,.int .i64 i,.float .f64 0,.string ⟨#[]⟩,.slice qy 0 cy]] w' fun e w''=>e=.returned (.int .i64 0)∧Below w'.1.size w' w''):=fun w' hb=>by
    have:=kC (.mk 2 []) (.mk 2 i 0 ⟨#[]⟩ []) w' _ _ (ta w' 2 tp tc) (hv.on (hba.trans (hb.mono hba.size)))
    rw[uF] at this
    exact this
   have d0:wa.cell? ⟨w.1.size+1,0,none⟩=some (.slice (some ⟨by',oy,none⟩) 1 cq):=(HCl.out wa HBa2.out).2
   have d1:wa.cell? ⟨wr.1.size,1,none⟩=some (.int .i64 2):=aa hblk 1
   have d2:wa.cell? ⟨wr.1.size,2,none⟩=some (.slice tp 0 tc):=aa hblk 2
   have d3:=ae hba b0
   have d4:=ae hba b1
   have d5:=ae hba b2
   have d6:=ae hba b3
   have d7:=ae hba b4
   have HWa:=xQ hwa
   clear hwa hba hblk hv b0 b1 b2 b3 b4
   go_wp2_with fail
   rw[<-HWa.out]
   clear HWa a0 a1 a2 a3 a4 a5 a6 a7 a8
   go_region_held3 (fun w'=>w'.cell? ⟨w.1.size+1,0,none⟩=some (.slice (some ⟨by',oy,none⟩) 1 cq)∧w'.cell? ⟨wr.1.size,1,none⟩=some (.int .i64 2)∧w'.cell? ⟨wr.1.size,2,none⟩=some (.slice tp 0 tc)∧w'.cell? ⟨by',oy,none⟩=some (.int .i64 2)∧w'.cell? ⟨by',oy+1,none⟩=some (.int .i64 i)∧w'.cell? ⟨by',oy+2,none⟩=some (.float .f64 0)∧w'.cell? ⟨by',oy+3,none⟩=some (.string ⟨#[]⟩)∧w'.cell? ⟨by',oy+4,none⟩=some (.slice qy 0 cy)) (go_keep) (first
    | (go_at_call 167;refine(HC.out _ (below_drewN xZ _)).mono ?_;rintro e w4 ⟨rfl,hb4⟩;have hb5:=cT (w:=wa) hb4 (by rfl) (by rfl) (by rfl) (by rfl);have z0:=ae hb5 d0;have z1:=ae hb5 d1;have z2:=ae hb5 d2;have z3:=ae hb5 d3;have z4:=ae hb5 d4;have z5:=ae hb5 d5;have z6:=ae hb5 d6;have z7:=ae hb5 d7;have HB42:=xQ (HBa2.out.trans (hb5.mono HBa2.out.size));clear hb4 hb5))
   clear z0 z1 z2 z3 z4 z5 z6 z7 d0 d1 d2 d3 d4 d5 d6 d7 HC
   go_wp2
   go_roundw
   case rel=>exact⟨1,by omega,by go_num,HB42⟩
   case measure=>simp[intOf]
  ·obtain rfl:j=1:=by omega
   clear hlt
   go_wp2
   go_ret
   exact⟨rfl,HBr.out⟩
end
end Go.Proofs.YtceomhodhmcknaaGreatDoor
