import Derived.Test.YtdgacombdcajmaaGreatDoorA7
import Derived.Test.YtdgacombdcajmaaGreatDoorL17A
set_option maxRecDepth 100000
set_option maxHeartbeats 8000000
namespace Go.Proofs.YtdgacombdcajmaaGreatDoor
section
namespace Sv
def Chain(b:L8):Nat->List (Nat×Fr)->Nat->Prop
 |p,[],e=>p=e
 |p,x::ps,e=>x.1=p∧∃n,Sc.at_ b (p:Nat)=.ok (x.2,n)∧Chain b n ps e
theorem chain_snoc{b:L8}{f:Fr}{n:Nat}:∀{ps:List (Nat×Fr)} {p q:Nat},Chain b p ps q->Sc.at_ b (q:Nat)=.ok (f,n)->Chain b p (ps++[(q,f)]) n
 | [],p,q,h,ha=>by
  obtain rfl:p=q:=h
  exact⟨rfl,n,ha,rfl⟩
 |x::ps,p,q,h,ha=>by
  obtain⟨h1,m,h2,h3⟩:=h
  exact⟨h1,m,h2,chain_snoc h3 ha⟩
theorem chain_last{b:L8}{x:Nat×Fr}{e:Nat}:∀{ps:List (Nat×Fr)} {p:Nat},Chain b p (ps++[x]) e->Chain b p ps x.1∧Sc.at_ b (x.1:Nat)=.ok (x.2,e)
 | [],p,h=>by
  obtain⟨h1,n,h2,h3⟩:=h
  obtain rfl:n=e:=h3
  rw[<-h1] at h2
  exact⟨h1.symm,h2⟩
 |y::ps,p,h=>by
  obtain⟨h1,n,h2,h3⟩:=h
  obtain⟨h4,h5⟩:=chain_last h3
  exact⟨⟨h1,n,h2,h4⟩,h5⟩
theorem at_dec{b:L8}{p:Int}{f:Fr}{n:Nat}(h:Sc.at_ b p=.ok (f,n)):Fr.dec (Fr.run f)=.ok f:=by
 unfold Sc.at_ at h
 split at h
 ·cases h
 ·split at h
  ·cases h
  ·split at h
   ·cases h
   ·split at h
    ·cases h
    ·rename_i r _ g hg
     injection h with h
     injection h with h _
     subst h
     rw[(Fr.dec_ok hg).2.1]
     exact hg
theorem run_clean:∀(u:L8) (d:Sp),(∀c∈u,c≠0)->d.run u=⟨d.n+u.length,d.last,d.out,d.tail++u⟩
 | [],d,_=>by simp[Sp.run]
 |c::u,d,h=>by
  rw[Sp.run_cons,run_clean u _ (fun x hx=>h x (List.mem_cons_of_mem _ hx))]
  have hc:=h c List.mem_cons_self
  simp only[Sp.step,if_neg hc,List.length_cons,List.append_assoc,List.singleton_append,Sp.mk.injEq,and_true]
  omega
theorem chain_runs{b:L8}:∀(k:Nat) {ps:List (Nat×Fr)} {e:Nat},ps.length=k->Chain b 0 ps e->e<=b.length∧frames (Sp.of (b.take e)).out=ps∧(Sp.of (b.take e)).tail=[]
 |0,ps,e,hk,h=>by
  obtain rfl:=List.eq_nil_of_length_eq_zero hk
  obtain rfl:0=e:=h
  exact⟨Nat.zero_le _,by simp[Sp.of,Sp.run,Sp.start,frames],by simp[Sp.of,Sp.run,Sp.start]⟩
 |k+1,ps,e,hk,h=>by
  obtain⟨qs,x,rfl⟩:∃qs x,ps=qs++[x]:=⟨ps.dropLast,ps.getLast (by intro hc;rw[hc] at hk;simp at hk),(List.dropLast_concat_getLast _).symm⟩
  obtain⟨h1,h2⟩:=chain_last h
  obtain⟨h3,h4,h5⟩:=chain_runs k (by simpa using hk) h1
  obtain⟨a1,a2,a3,a4,a5,a6,a7⟩:=Sc.at_ok h2
  rw[Int.toNat_natCast] at a5 a7
  have hd:=at_dec h2
  have hnz:=Fr.run_nz x.2
  have hle:=(Fr.err_open a3).2
  have hne:Fr.run x.2≠[]:=fun hc=>by have:=Fr.run_ge (f:=x.2);rw[hc] at this;simp at this
  have e1:b.take e=b.take x.1++(0::(Fr.run x.2++[0])):=by
   rw[a5,show x.1+(Fr.run x.2).length+2=x.1+((Fr.run x.2).length+2) by omega,List.take_add,a7]
  have e2:Sp.of (b.take e)=⟨(Sp.of (b.take x.1)).n+1+(Fr.run x.2).length+1,some ((Sp.of (b.take x.1)).n+1+(Fr.run x.2).length),(Sp.of (b.take x.1)).out++[((Sp.of (b.take x.1)).n,Fr.run x.2)],[]⟩:=by
   rw[e1,Sp.of_append]
   generalize Sp.of (b.take x.1)=d at h5
   have t0:d.told 0=[]:=by
    unfold Sp.told
    rw[if_pos rfl,h5]
    cases d.op <;> simp
   rw[Sp.run_cons,Sp.step_fence,t0,List.append_nil,Sp.run_append,run_clean _ _ hnz]
   simp only[List.nil_append,Sp.run_cons,Sp.run_nil]
   rw[Sp.step_fence]
   have t1:(⟨d.n+1+(Fr.run x.2).length,some d.n,d.out,Fr.run x.2⟩:Sp).told 0=[(d.n,Fr.run x.2)]:=by
    unfold Sp.told Sp.op
    rw[if_pos rfl,if_pos hle]
    simp[hne]
   rw[t1]
  rw[e2]
  refine⟨a6,?_,rfl⟩
  rw[Sp.of_n,List.length_take,Nat.min_eq_left h3]
  unfold frames at h4 ⊢
  rw[List.filterMap_append,h4]
  simp[hd]
theorem chain_sorted{b:L8}{ps:List (Nat×Fr)}(h:Chain b 0 ps b.length):ps.Pairwise (fun x y=>x.1<y.1)∧frames (Sp.of b).out=ps:=by
 have hr:=(chain_runs ps.length rfl h).2.1
 rw[List.take_length] at hr
 refine⟨?_,hr⟩
 rw[<-hr]
 unfold frames
 exact(Sp.row_all b).sorted.filterMap _ fun x y hxy u hu v hv=>by
  have e1:u.1=x.1:=by
   split at hu
   ·injection hu with hu;rw[<-hu]
   ·cases hu
  have e2:v.1=y.1:=by
   split at hv
   ·injection hv with hv;rw[<-hv]
   ·cases hv
  omega
def cnt(s:Int->Option (List Col))(ps:List (Nat×Fr))(t:Nat):Nat:=((ps.take t).filterMap (saved s)).length
section
variable {s:Int->Option (List Col)} {ps:List (Nat×Fr)} {t:Nat} (ht:t<ps.length)
theorem cnt_zero:cnt s ps 0=0:=by simp[cnt]
theorem cnt_all:cnt s ps ps.length=(ps.filterMap (saved s)).length:=by unfold cnt;rw[List.take_length]
include ht
theorem cnt_none(h:saved s ps[t]=none):cnt s ps (t+1)=cnt s ps t:=by
 unfold cnt
 rw[List.take_succ_eq_append_getElem ht,List.filterMap_append]
 simp[h]
theorem cnt_some{x:Bat}(h:saved s ps[t]=some x):cnt s ps (t+1)=cnt s ps t+1:=by
 unfold cnt
 rw[List.take_succ_eq_append_getElem ht,List.filterMap_append]
 simp[h]
theorem cnt_split:ps.filterMap (saved s)=(ps.take t).filterMap (saved s)++((saved s ps[t]).toList++(ps.drop (t+1)).filterMap (saved s)):=by
 have e:ps=ps.take t++(ps[t]::ps.drop (t+1)):=by rw[<-List.drop_eq_getElem_cons ht,List.take_append_drop]
 conv=>lhs;rw[e]
 rw[List.filterMap_append,List.filterMap_cons]
 cases saved s ps[t] <;> rfl
theorem cnt_le:cnt s ps t<=(ps.filterMap (saved s)).length:=by
 rw[cnt_split ht]
 unfold cnt
 simp
theorem just_hit{x:Bat}(h:saved s ps[t]=some x):(ps.filterMap (saved s))[cnt s ps t]?=some x:=by
 rw[cnt_split ht,List.getElem?_append_right (by unfold cnt;omega),h]
 simp[cnt]
theorem just_skip(hp:ps.Pairwise (fun x y=>x.1<y.1))(h:saved s ps[t]=none){x:Bat}(hx:(ps.filterMap (saved s))[cnt s ps t]?=some x):x.at_≠ps[t].1:=by
 rw[cnt_split ht,List.getElem?_append_right (by unfold cnt;omega),h] at hx
 simp only[cnt,Nat.sub_self,Option.toList_none,List.nil_append] at hx
 have hm:=List.mem_of_getElem? hx
 rw[List.mem_filterMap] at hm
 obtain⟨y,hy,hs⟩:=hm
 have he:x.at_=y.1:=by
  unfold saved at hs
  split at hs
  ·split at hs
   ·cases hs
   ·split at hs
    ·cases hs
    ·injection hs with hs;rw[<-hs]
  ·cases hs
 obtain⟨j,hj,rfl⟩:=List.mem_iff_getElem.1 hy
 rw[List.getElem_drop] at he
 rw[List.length_drop] at hj
 have:=List.pairwise_iff_getElem.1 hp t (t+1+j) ht (by omega) (by omega)
 omega
end
theorem saved_says{s:Int->Option (List Col)}{p:Nat×Fr}{x:Bat}(h:saved s p=some x):p.2.kind=2∧x.at_=p.1∧x.number=p.2.number∧x.seq=p.2.seq∧x.first=p.2.first∧(x.rows.length:Int)=p.2.rows:=by
 unfold saved at h
 split at h
 ·rename_i hk
  split at h
  ·cases h
  ·split at h
   ·cases h
   ·rename_i l hl
    injection h with h
    rw[<-h]
    exact⟨hk,rfl,rfl,rfl,rfl,whole_len hl⟩
 ·cases h
theorem all_chain{b:L8}{ps:List (Nat×Fr)}(h:Chain b 0 ps b.length):all b=ps.filterMap (saved (sure (said (Sp.of b).out))):=by
 unfold all bats
 rw[(chain_sorted h).2]
end Sv
end
section
open Go.RowKit
structure dQ(w:World)(B g:Nat)(v:Value)(b:L8)(n:Nat):Prop where
 out:∃s x k,aN w B g v s x k∧s.b=b∧s.down=false∧s.told<=n
section
variable {w w':World} {B g n:Nat} {v:Value} {b:L8}
theorem dQ.on(h:dQ w B g v b n)(hb:Below w.1.size w w'):dQ w' B g v b n:=by
 obtain⟨s,x,k,h1,h2⟩:=h.out
 exact⟨s,x,k,h1.below hb,h2⟩
theorem dQ.aside{F:Nat->Prop}(h:dQ w B g v b n)(ha:Aside F w w')(hg:¬F g)(hv:∀k,v.ownBlock=some k->¬F k):dQ w' B g v b n:=by
 obtain⟨s,x,k,h1,h2⟩:=h.out
 exact⟨s,x,k,h1.aside ha hg hv,h2⟩
theorem dQ.blk(h:dQ w B g v b n):∃C,w.1[g]?=some (.cells C 129):=by
 obtain⟨s,x,k,h1,h2⟩:=h.out
 exact⟨_,h1.lies⟩
theorem dQ.own(h:dQ w B g v b n){i:Nat}(hi:v.ownBlock=some i):(B<=i∧i<w.1.size)∧∃C,w.1[i]?=some (.cells C 5):=by
 obtain⟨s,x,k,h1,h2⟩:=h.out
 refine⟨h1.has.lt i hi,?_⟩
 rcases h1.has.2 with ⟨h3,_⟩ | ⟨g',cap,cur,h3,_,h5,_⟩
 ·rw[h3] at hi;cases hi
 ·rw[h3] at hi
  injection hi with hi
  rw[<-hi]
  exact⟨cur,h5⟩
theorem dQ.lt(h:dQ w B g v b n):B<=g∧g<w.1.size:=by
 obtain⟨s,x,k,h1,h2⟩:=h.out
 exact⟨h1.base,h1.lt⟩
theorem dQ.whole(h:dQ w B g v b n)(hn:n<=90000000000)(hl:b.length<=2097152)(hv:Hv w)(hB:2<B):
  Calls Tryz.prog 14 #[.pointer (some ⟨g,0,none⟩)] w fun e w'=>∃(X:Sc.Pos) (er:Nat),e=.returned (.tuple #[.pointer (some ⟨w.1.size+1,0,none⟩),.int .i64 (X.at_:Nat),.int .i64 (er:Nat)])∧dQ w' B g v b (n+4000000000)∧Aside (fun i=>i=g) w w':=by
 obtain⟨s,x,k,h1,rfl,h3,h7⟩:=h.out
 refine(wB h1 h3 hl (by omega) hv hB (by have:=h1.base;have:=h1.lt;omega) (G:=fun i=>i=g∨v.ownBlock=some i) (fun i hi=>hi) (fun i hi=>by
  rcases hi with hi | hi
  ·have:=h1.lt;omega
  ·exact(h1.has.lt i hi).2)).mono ?_
 rintro e w' ⟨j,X,er,v',g',q1,q2,q3,q4,q5,q6⟩
 obtain⟨hgd,hat,h8,hrd⟩:=Sc.goes_good q1
 have hrl:=Sc.reads_le s.b X.at_
 exact⟨X,er,q3,⟨_,x,k,q5,rfl,h3,by show s.told+X.read+Sc.reads s.b X.at_<=_;omega⟩,q6⟩
theorem dQ.at(h:dQ w B g v b n)(hn:n<=90000000000)(hl:b.length<=2097152)(hv:Hv w)(hB:2<B)(p:Int):
  Calls Tryz.prog 15 #[.pointer (some ⟨g,0,none⟩),.int .i64 p] w fun e w'=>AtA (Sc.at_ b p) w e w'∧dQ w' B g v b (n+2202)∧Aside (fun i=>i=g) w w':=by
 obtain⟨s,x,k,h1,rfl,h3,h7⟩:=h.out
 have hrl:=Sc.reads_le s.b p
 refine(kAt h1 h3 hl (by omega) hv hB p).mono ?_
 rintro e w' ⟨q1,q2,q3⟩
 exact⟨q1,⟨_,x,k,q2,rfl,h3,by show s.told+Sc.reads s.b p<=_;omega⟩,q3⟩
end
def ym(w:World)(b:L8)(e:Ending)(w':World):Prop:=Below w.1.size w w'∧((2097152<b.length∧e=.returned (.pointer none))∨(b.length<=2097152∧∃g v,e=.returned (.pointer (some ⟨g,0,none⟩))∧dQ w' w.1.size g v b 0))
theorem wA(b:L8)(p:OA)(c:Nat)(w:World)(hA:At w p b):Calls Tryz.prog 13 #[.slice p b.length c] w (ym w b):=by
 have HN:=yQ (uL 1048576 (by omega) w)
 have HA:=yQ hA
 clear hA
 go_enter Tryz.func13,Tryz.ntmps13
 go_wp2_with fail
 refine HN.out.mono ?_
 rintro e w1 ⟨rfl,hk,hb1⟩
 have HT:=yQ (xL hk p c b (HA.out.on hb1) (fun hne k o hp=>by
  rcases HA.out with h0 | ⟨b',o',h1,h2,h3⟩
  ·exact absurd h0 hne
  ·rw[h1] at hp
   injection hp with hp
   injection hp with e1 _
   subst e1
   omega) (by simp[Dv.new]) hb1.size)
 have HB1:=yQ hb1
 clear hk hb1 HN
 by_cases hl:2097152<b.length
 ·have e1:Dv.tail (Dv.new 1048576) b=(2,Dv.new 1048576):=by unfold Dv.tail;rw[if_pos (by simpa[Dv.new] using hl)]
  rw[e1] at HT
  clear e1
  go_wp2_with fail
  refine HT.out.mono ?_
  rintro e w2 ⟨rfl,v',x',k',hk2,ha2,hv2⟩
  have HZ:Hid (Below w.1.size w w2):=HB1.out.trans (ha2.below HB1.out.size (fun k hk hc=>by
   rcases hc with hc | hc
   ·omega
   ·simp[Value.ownBlock] at hc))
  clear hk2 ha2 hv2 HT
  go_wp2
  go_ret
  exact⟨HZ.out,.inl ⟨hl,rfl⟩⟩
 ·have e1:Dv.tail (Dv.new 1048576) b=(0,{ Dv.new 1048576 with b:=b,safe:=b.length }):=by
   unfold Dv.tail
   rw[if_neg (by simpa[Dv.new] using hl)]
   simp[Dv.new]
  rw[e1] at HT
  clear e1
  go_wp2_with fail
  refine HT.out.mono ?_
  rintro e w2 ⟨rfl,v',x',k',hk2,ha2,hv2⟩
  have HZ:Hid (Below w.1.size w w2∧dQ w2 w.1.size w.1.size v' b 0):=⟨HB1.out.trans (ha2.below HB1.out.size (fun k hk hc=>by
   rcases hc with hc | hc
   ·omega
   ·simp[Value.ownBlock] at hc)),⟨_,x',k',hk2,rfl,rfl,yX⟩⟩
  clear hk2 ha2 hv2 HT
  go_wp2
  go_ret
  exact⟨HZ.out.1,.inr ⟨by omega,_,_,rfl,HZ.out.2⟩⟩
def plc(x:Nat×Fr)(u:List Value)(_:World):Prop:=∃sp sn sc bp bn bc ia ib ic ep en ec,u=[.int .i64 x.2.kind,.int .i64 x.2.number,.slice sp sn sc,.int .i64 x.2.seq,.int .i64 x.2.first,.int .i64 x.2.rows,.slice bp bn bc,.int .i64 ia,.int .i64 ib,.int .i64 ic,.slice ep en ec,.int .i64 (x.1:Nat)]
theorem uO:(Tryz.prog.info? 38).map (fun i=>(i.zero,i.size,i.bytes))=some (some (.agg #[.int .i64 0,.int .i64 0,.slice none 0 0,.int .i64 0,.int .i64 0,.int .i64 0,.slice none 0 0,.int .i64 0,.int .i64 0,.int .i64 0,.slice none 0 0,.int .i64 0]),12,144):=by kernel_rfl
def yg(w:World)(b:L8)(e:Ending)(w':World):Prop:=Below w.1.size w w'∧((e=.returned (.tuple #[.slice none 0 0,.bool false]))∨∃ps v,e=.returned (.tuple #[v,.bool true])∧Sv.Chain b 0 ps b.length∧Lot 38 12 plc w' w.1.size v ps)
structure W17(w wr:World)(B g:Nat)(v u:Value)(b:L8)(ps:List (Nat×Fr))(q:Nat):Prop where
 file:dQ wr B g v b (4000000000+2202*q)
 rows:Lot 38 12 plc wr w.1.size u ps
 chain:Sv.Chain b 0 ps q
 below:Below w.1.size w wr
 few:ps.length<=q
section
variable {w wr w2 W W':World} {B g:Nat} {v u u':Value} {b:L8} {ps:List (Nat×Fr)} {q n:Nat} {f:Fr}
theorem Lot.blk17(h:Lot 38 12 plc w B u ps){i:Nat}(hi:u.ownBlock=some i):∃C,w.1[i]?=some (.cells C 38 (0,0)):=by
 obtain⟨us,_,_,h1,_⟩:=h.out
 rcases h1.2 with ⟨rfl,_⟩ | ⟨g,cap,cur,rfl,_,h5,_⟩
 ·cases hi
 ·injection hi with hi
  rw[<-hi]
  exact⟨cur,h5⟩
theorem W17.rows2(h:W17 w wr B g v u b ps q)(ha:Aside (fun i=>i=g) wr w2):Lot 38 12 plc w2 w.1.size u ps:=Lot.aside h.rows ha (fun i hi hc=>by
 obtain⟨C,hC⟩:=h.rows.blk17 hi
 obtain⟨D,hD⟩:=h.file.blk
 rw[hc,hD] at hC
 injection hC with hC
 injection hC with _ hC _
 exact absurd hC (by decide)) fun _ _ hs=>fun _ _=>hs.here
theorem W17.next(h:W17 w wr B g v u b ps q)(hB:B=w.1.size)(ha:Aside (fun i=>i=g) wr w2)(hf:dQ w2 B g v b (4000000000+2202*q+2202))(hat:Sc.at_ b (q:Nat)=.ok (f,n))(hb:Below w2.1.size w2 W)(hl:Lot 38 12 plc W' w.1.size u' (ps++[(q,f)]))(hA:Aside (fun i=>u.ownBlock=some i) W W'):W17 w W' B g v u' b (ps++[(q,f)]) n:=by
 have hq:=(Sc.at_ok hat).2.2.2.2.1
 rw[Int.toNat_natCast] at hq
 have hro:=(h.rows2 ha).on hb
 have h1:=hf.on hb
 have h2:dQ W' B g v b (4000000000+2202*q+2202):=h1.aside hA (fun hc=>by
  obtain⟨C,hC⟩:=hro.blk17 hc
  obtain⟨D,hD⟩:=h1.blk
  rw[hD] at hC
  injection hC with hC
  injection hC with _ hC _
  exact absurd hC (by decide)) (fun i hi hc=>by
  obtain⟨C,hC⟩:=hro.blk17 hc
  obtain⟨D,hD⟩:=(h1.own hi).2
  rw[hD] at hC
  injection hC with hC
  injection hC with _ hC _
  exact absurd hC (by decide))
 obtain⟨s,x,k,g1,g2,g3,g4⟩:=h2.out
 have hlt:=h.file.lt
 refine⟨⟨s,x,k,g1,g2,g3,by omega⟩,hl,Sv.chain_snoc h.chain hat,?_,by have:=h.few;simp;omega⟩
 have b1:=h.below.trans (ha.below h.below.size (fun k hk hc=>by omega))
 have b2:=b1.trans (hb.mono b1.size)
 exact b2.trans (hA.below b2.size (fun k hk hc=>by have:=(hro.lt k hc).1;omega))
end
theorem tZ(b:L8)(p:OA)(c:Nat)(w:World)(hA:At w p b)(hv:Hv w):Calls Tryz.prog 5 #[.slice p b.length c] w (yg w b):=by
 have HL:=yQ (wA b p c w hA)
 have HV:=yQ hv
 clear hA hv
 go_enter Tryz.func5,Tryz.ntmps5
 go_wp2_with fail
 refine HL.out.mono ?_
 rintro e w1 ⟨hb1,hr⟩
 have HB1:=yQ hb1
 have HV1:=yQ (HV.out.next hb1)
 have hG:=HV.out.lt
 clear hb1 HL
 rcases hr with ⟨-,rfl⟩ | ⟨hl,g,v,rfl,hup⟩
 ·go_wp2
  go_ret2
  exact⟨HB1.out,.inl rfl⟩
 have HW:=yQ (hup.whole (by omega) hl HV1.out hG)
 have hgl:=hup.lt
 clear hup
 go_wp2_with fail
 refine HW.out.mono ?_
 rintro e w2 ⟨X,er,rfl,hu2,ha2⟩
 have HB2:Hid (Below w.1.size w w2):=HB1.out.trans (ha2.below HB1.out.size (fun k hk hc=>by omega))
 have HU2:=yQ hu2
 clear hu2 ha2 HW
 by_cases hne:¬er=140
 ·have g0:((er:Int) != 140)=true:=aT (by omega)
  clear hne
  go_wp2
  go_ret2
  exact⟨HB2.out,.inl rfl⟩
 replace hne:er=140:=Classical.not_not.1 hne
 subst hne
 have HS:Hid (W17 w w2 w.1.size g v (.slice none 0 0) b [] 0):=⟨by simpa using HU2.out,gD _ _,rfl,HB2.out,by simp⟩
 clear HU2
 go_wp2_with fail
 go_loopw [8,9] (fun v8 v9 wr=>∃(ps:List (Nat×Fr)) (q:Nat),q<=b.length∧v9=.int .i64 q∧Hid (W17 w wr w.1.size g v v8 b ps q)) (fun _ v9 _=>b.length-(intOf v9).toNat)
 case atStart=>exact⟨[],0,Nat.zero_le _,rfl,HS⟩
 case round=>
  obtain⟨ps,q,hq,rfl,HR⟩:=hrel
  clear HS
  by_cases hql:q<b.length
  ·have hql':(q:Int)<(b.length:Int):=by omega
   have HAt:=yQ (HR.out.file.at (by omega) hl (HV.out.next HR.out.below) hG (q:Nat))
   go_wp2_with fail
   refine HAt.out.mono ?_
   clear HAt
   rintro e w3 ⟨hat,hup,ha3⟩
   cases hd:Sc.at_ b (q:Nat) with
   |error er=>
    rw[hd] at hat
    have he:e=.returned (.tuple #[.agg eH,.int .i64 0,.int .i64 (er:Nat)]):=hat
    subst he
    have hne:=pH hd
    have g1:((er:Int) != 0)=true:=aT (by omega)
    have HZ:Hid (∀o,Below w.1.size w (w3.alloc o)):=fun o=>by
     have h1:=HR.out.below.trans (ha3.below HR.out.below.size (fun k hk hc=>by omega))
     exact h1.alloc h1.size o
    unfold eH
    clear hd hat hup ha3 hne
    go_wp2
    go_ret2
    exact⟨HZ.out _,.inl rfl⟩
   |ok r=>
    obtain⟨f,n⟩:=r
    rw[hd] at hat
    obtain⟨x,rfl,hfo⟩:∃u,e=.returned (.tuple #[.agg u,.int .i64 (n:Nat),.int .i64 0])∧fD w3 wr.1.size u f:=hat
    obtain⟨sp,sc,bp,bc,ep,ec,hx,-⟩:=hfo.out
    subst hx
    unfold aI
    have hnb:=(Sc.at_ok hd).2.2.2.2
    rw[Int.toNat_natCast] at hnb
    obtain⟨-,hBk,hB5,-⟩:=al2 w3 (.cells #[.int .i64 f.kind,.int .i64 f.number,.slice sp f.cols.length sc,.int .i64 f.seq,.int .i64 f.first,.int .i64 f.rows,.slice bp f.block.length bc,.int .i64 f.index.at_,.int .i64 f.index.frames,.int .i64 f.index.rows,.slice ep f.index.entries.length ec] 36) (.cells #[.int .i64 f.kind,.int .i64 f.number,.slice sp f.cols.length sc,.int .i64 f.seq,.int .i64 f.first,.int .i64 f.rows,.slice bp f.block.length bc,.int .i64 f.index.at_,.int .i64 f.index.frames,.int .i64 f.index.rows,.slice ep f.index.entries.length ec,.int .i64 (q:Nat)] 38)
    have HBk:=yQ hBk
    have HB5:=yQ hB5
    have HLt:=yQ ((HR.out.rows2 ha3).on hB5)
    have HX:=yQ (And.intro ha3 (And.intro hup (And.intro hd hnb)))
    have hpl:ps.length<=2097152:=by have:=HR.out.few;omega
    have hsB:w.1.size<=w3.1.size:=Nat.le_trans HR.out.below.size ha3.size
    have hs5:=hB5.size
    have hnl:n<=b.length:=hnb.2.1
    have hqn:q<n:=by omega
    clear hBk hB5 hd hfo hup ha3 hnb
    go_wp2_with (first | (at_builtin;refine ja (P:=plc) uO Tryz.underlying24 rfl (by decide) HLt.out (q,f) #[.int .i64 f.kind,.int .i64 f.number,.slice sp f.cols.length sc,.int .i64 f.seq,.int .i64 f.first,.int .i64 f.rows,.slice bp f.block.length bc,.int .i64 f.index.at_,.int .i64 f.index.frames,.int .i64 f.index.rows,.slice ep f.index.entries.length ec,.int .i64 (q:Nat)] rfl (by intro a ha;simp at ha;rcases ha with rfl | rfl | rfl | rfl | rfl | rfl | rfl | rfl | rfl | rfl | rfl | rfl <;> rfl) (fun _ _=>⟨sp,_,sc,bp,_,bc,_,_,_,ep,_,ec,rfl⟩) HBk.out (by omega) (by omega) (by omega) rfl rfl rfl rfl rfl ?_;(intro g2 cap2 w5 hl5 ha5 _);(have HN:=yQ (HR.out.next rfl HX.out.1 HX.out.2.1 HX.out.2.2.1 HB5.out hl5 ha5));(clear hl5 ha5)) | fail)
    go_roundw
    case rel=>exact⟨_,n,hnl,rfl,HN⟩
    case measure=>simp[intOf];omega
  ·have hjn:¬(q:Int)<(b.length:Int):=by omega
   obtain rfl:q=b.length:=by omega
   clear hql
   go_wp2
   go_ret2
   exact⟨HR.out.below,.inr ⟨ps,_,rfl,HR.out.chain,HR.out.rows⟩⟩
end
section
open Go.RowKit
theorem iM.get{w:World}{q:OA}{xs:List Bat}(h:iM w q xs){k:Nat}{x:Bat}(hx:xs[k]?=some x):∃b o rp rc,q=some ⟨b,o,none⟩∧b<w.1.size∧w.cell? ⟨b,o+k*5,none⟩=some (.int .i64 (x.at_:Nat))∧w.cell? ⟨b,o+k*5+1,none⟩=some (.int .i64 x.number)∧w.cell? ⟨b,o+k*5+2,none⟩=some (.int .i64 x.seq)∧w.cell? ⟨b,o+k*5+3,none⟩=some (.int .i64 x.first)∧w.cell? ⟨b,o+k*5+4,none⟩=some (.slice rp x.rows.length rc):=by
 obtain⟨hk,he⟩:=List.getElem?_eq_some_iff.1 hx
 obtain⟨b,o,rp,rc,h1,h2,h3,h4,h5,h6,h7,-⟩:=h k hk
 rw[he] at h3 h4 h5 h6 h7
 exact⟨b,o,rp,rc,h1,h2,h3,h4,h5,h6,h7⟩
theorem Lot.place{w:World}{B:Nat}{q:OA}{n c:Nat}{ps:List (Nat×Fr)}(h:Lot 38 12 plc w B (.slice q n c) ps)(t:Nat)(ht:t<ps.length):∃g sp sn sc bp bn bc ia ib ic ep en ec,q=some ⟨g,0,none⟩∧g<w.1.size∧w.cell? ⟨g,t*12,none⟩=some (.int .i64 ps[t].2.kind)∧w.cell? ⟨g,t*12+1,none⟩=some (.int .i64 ps[t].2.number)∧w.cell? ⟨g,t*12+2,none⟩=some (.slice sp sn sc)∧w.cell? ⟨g,t*12+3,none⟩=some (.int .i64 ps[t].2.seq)∧w.cell? ⟨g,t*12+4,none⟩=some (.int .i64 ps[t].2.first)∧w.cell? ⟨g,t*12+5,none⟩=some (.int .i64 ps[t].2.rows)∧w.cell? ⟨g,t*12+6,none⟩=some (.slice bp bn bc)∧w.cell? ⟨g,t*12+7,none⟩=some (.int .i64 ia)∧w.cell? ⟨g,t*12+8,none⟩=some (.int .i64 ib)∧w.cell? ⟨g,t*12+9,none⟩=some (.int .i64 ic)∧w.cell? ⟨g,t*12+10,none⟩=some (.slice ep en ec)∧w.cell? ⟨g,t*12+11,none⟩=some (.int .i64 (ps[t].1:Nat)):=by
 obtain⟨g,cap,u,h1,_,_,h4,_,h6,sp,sn,sc,bp,bn,bc,ia,ib,ic,ep,en,ec,h7⟩:=h.cell t ht
 injection h1 with h1 _ _
 rw[h7] at h6
 exact⟨g,sp,sn,sc,bp,bn,bc,ia,ib,ic,ep,en,ec,h1,h4,h6 0 (by omega),h6 1 (by omega),h6 2 (by omega),h6 3 (by omega),h6 4 (by omega),h6 5 (by omega),h6 6 (by omega),h6 7 (by omega),h6 8 (by omega),h6 9 (by omega),h6 10 (by omega),h6 11 (by omega)⟩
theorem jX(HK:tY Hv)(HLv:∀w,Hv w->Calls Tryz.prog 4 #[] w fun e w'=>e=.returned (.bool true)∧Below w.1.size w w')(b:L8)(p:OA)(c:Nat)(w:World)(hl:b.length<=140737488351232)(hbc:b.length<=c)(hA:At w p b)(hv:Hv w):
  Calls Tryz.prog 3 #[.slice p b.length c] w fun e w'=>e=.returned (.bool true)∧Below w.1.size w w':=by
 have HA:=yQ hA
 have HV:=yQ hv
 have HL:=yQ (HLv w hv)
 have HHK:=yQ HK
 clear hA hv HLv HK
 go_enter Tryz.func3,Tryz.ntmps3
 go_wp2_with fail
 refine HL.out.mono ?_
 rintro e w1 ⟨rfl,hb1⟩
 have HW:=yQ (tZ b p c w1 (HA.out.on hb1) (HV.out.next hb1))
 have HB1:=yQ hb1
 clear hb1 HL
 go_wp2_with fail
 refine HW.out.mono ?_
 rintro e w2 ⟨hb2,hr⟩
 have HB2:=yQ (HB1.out.trans (hb2.mono HB1.out.size))
 clear hb2 HW
 rcases hr with rfl | ⟨ps,vp,rfl,hch,hlot⟩
 ·go_wp2
  go_ret
  exact⟨rfl,HB2.out⟩
 obtain⟨qp,cp,hvp,hcp⟩:=hlot.form
 subst hvp
 have HLo:=yQ hlot
 have HSo:=yQ (Sv.chain_sorted hch).1
 have HEq:=yQ (Sv.all_chain hch)
 have hpl:ps.length<=b.length:=by
  have h1:=Sp.out_len b
  rw[<-(Sv.chain_sorted hch).2]
  exact Nat.le_trans (List.length_filterMap_le _ _) h1
 clear hch hlot
 by_cases hlen:¬b.length<=30000
 ·have g0:(30000:Int)<(b.length:Int):=by omega
  go_wp2
  go_ret
  exact⟨rfl,HB2.out⟩
 replace hlen:b.length<=30000:=Classical.not_not.1 hlen
 have g0:¬(30000:Int)<(b.length:Int):=by omega
 have HAll:=yQ (HHK.out.all b p c w2 (by omega) hbc (HA.out.on HB2.out) (HV.out.next HB2.out))
 have hfw:=ve b
 obtain⟨S,hS⟩:∃S,S=Sv.sure (Sv.said (Sp.of b).out):=⟨_,rfl⟩
 rw[<-hS] at HEq
 obtain⟨xs,hxs⟩:∃xs,xs=Sv.all b:=⟨_,rfl⟩
 rw[<-hxs] at HAll HEq hfw
 clear hS hxs
 go_wp2_with fail
 refine HAll.out.mono ?_
 rintro e w3 ⟨q,d,rfl,hbl,hb3⟩
 have HBL:=yQ hbl
 have HB3:=yQ (HB2.out.trans (hb3.mono HB2.out.size))
 have HL3:=yQ (HLo.out.on hb3)
 clear hbl hb3 HAll HLo
 go_wp2_with fail
 go_loopw [7,28] (fun v7 v28 wr=>∃t:Nat,t<=ps.length∧v28=.int .i64 t∧v7=.int .i64 (Sv.cnt S ps t:Nat)∧Hid (Below w3.1.size w3 wr)) (fun _ v28 _=>ps.length-(intOf v28).toNat)
 case atStart=>exact⟨0,by omega,rfl,by rw[Sv.cnt_zero];rfl,yZ⟩
 case round=>
  obtain⟨t,ht,rfl,rfl,HR⟩:=hrel
  by_cases htl:t<ps.length
  ·have htl':(t:Int)<(ps.length:Int):=by omega
   obtain⟨gp,sp,sn,sc,bp,bn,bc,ia,ib,ic,ep,en,ec,hqp,hgp,x0,x1,x2,x3,x4,x5,x6,x7,x8,x9,x10,x11⟩:=(HL3.out.on HR.out).place t htl
   subst hqp
   obtain⟨⟨k,f⟩,hpt⟩:∃r,r=ps[t]:=⟨_,rfl⟩
   rw[<-hpt] at x0 x1 x3 x4 x5 x11
   simp only at x0 x1 x3 x4 x5 x11
   obtain⟨wa,hwa⟩:∃W,W=wr.alloc (.cells #[.int .i64 f.kind,.int .i64 f.number,.slice sp sn sc,.int .i64 f.seq,.int .i64 f.first,.int .i64 f.rows,.slice bp bn bc,.int .i64 ia,.int .i64 ib,.int .i64 ic,.slice ep en ec,.int .i64 (k:Int)] 38):=⟨_,rfl⟩
   have hba:Below wr.1.size wr wa:=by rw[hwa];exact yY
   have hka:wa.1[wr.1.size]?=some (.cells #[.int .i64 f.kind,.int .i64 f.number,.slice sp sn sc,.int .i64 f.seq,.int .i64 f.first,.int .i64 f.rows,.slice bp bn bc,.int .i64 ia,.int .i64 ib,.int .i64 ic,.slice ep en ec,.int .i64 (k:Int)] 38 (0,0)):=by rw[hwa];exact an wr _
   have z0:wa.cell? ⟨wr.1.size,0,none⟩=some (.int .i64 f.kind):=aa hka 0
   have z1:wa.cell? ⟨wr.1.size,1,none⟩=some (.int .i64 f.number):=aa hka 1
   have z3:wa.cell? ⟨wr.1.size,3,none⟩=some (.int .i64 f.seq):=aa hka 3
   have z4:wa.cell? ⟨wr.1.size,4,none⟩=some (.int .i64 f.first):=aa hka 4
   have z5:wa.cell? ⟨wr.1.size,5,none⟩=some (.int .i64 f.rows):=aa hka 5
   have z11:wa.cell? ⟨wr.1.size,11,none⟩=some (.int .i64 (k:Int)):=aa hka 11
   have HRa:=yQ (HR.out.trans (hba.mono HR.out.size))
   have HWa:=yQ hwa
   clear hwa hba hka
   cases hs:Sv.saved S ps[t] with
   |some x=>
    have hx:=Sv.just_hit htl hs
    have hc1:=Sv.cnt_some htl hs
    rw[<-HEq.out] at hx
    have hklt:=(List.getElem?_eq_some_iff.1 hx).1
    rw[<-hpt] at hs
    obtain⟨s1,s2,s3,s4,s5,s6⟩:=Sv.saved_says hs
    simp only at s1 s2 s3 s4 s5 s6
    obtain⟨bb,ob,rp,rc,hqe,hbb,y0,y1,y2,y3,y4⟩:=(HBL.out.on HRa.out).get hx
    subst hqe
    obtain⟨n,hn⟩:∃n,n=Sv.cnt S ps t:=⟨_,rfl⟩
    rw[<-hn] at hc1 hklt y0 y1 y2 y3 y4 ⊢
    rw[s2] at y0
    rw[s3] at y1
    rw[s4] at y2
    rw[s5] at y3
    have t0:(f.kind != 2)=false:=bd s1
    have t1:((n:Int)==(xs.length:Int))=false:=bf (by omega)
    have t2:((k:Int) != (k:Int))=false:=bd rfl
    have t3:(f.seq != f.seq)=false:=bd rfl
    have t4:(f.first != f.first)=false:=bd rfl
    have t5:((x.rows.length:Int) != f.rows)=false:=bd s6
    have t6:(f.number != f.number)=false:=bd rfl
    have hn1:(n:Int)<(xs.length:Int):=by omega
    have HC1:=yQ hc1
    clear hs hx hpt s1 s2 s3 s4 s5 s6 hn hc1
    go_wp2_with fail
    rw[<-HWa.out]
    clear HWa x0 x1 x2 x3 x4 x5 x6 x7 x8 x9 x10 x11
    go_quiet (fail)
    go_wp2_with fail
    go_quiet (fail)
    go_wp2_with fail
    go_roundw
    case rel=>exact⟨t+1,by omega,by go_num,by rw[HC1.out];go_num,below_drewN HRa.out _⟩
    case measure=>simp[intOf];omega
   |none=>
    have hc1:=Sv.cnt_none htl hs
    have HSk:Hid (∀x,xs[Sv.cnt S ps t]?=some x->x.at_≠k):=fun x hx=>by
     rw[HEq.out] at hx
     have:=Sv.just_skip htl HSo.out hs hx
     rw[<-hpt] at this
     exact this
    have hle:Sv.cnt S ps t<=xs.length:=by rw[HEq.out];exact Sv.cnt_le htl
    obtain⟨n,hn⟩:∃n,n=Sv.cnt S ps t:=⟨_,rfl⟩
    rw[<-hn] at hc1 hle HSk ⊢
    have HC1:=yQ hc1
    clear hs hpt hn hc1
    by_cases hk:f.kind=2
    ·have t0:(f.kind != 2)=false:=bd hk
     by_cases hke:n=xs.length
     ·have t1:((n:Int)==(xs.length:Int))=true:=dD (by omega)
      clear hk hke
      go_wp2_with fail
      rw[<-HWa.out]
      clear HWa x0 x1 x2 x3 x4 x5 x6 x7 x8 x9 x10 x11
      go_quiet (fail)
      go_wp2_with fail
      go_roundw
      case rel=>exact⟨t+1,by omega,by go_num,by rw[HC1.out],below_drewN HRa.out _⟩
      case measure=>simp[intOf];omega
     ·have hklt:n<xs.length:=by omega
      obtain⟨x,hx⟩:∃x,xs[n]?=some x:=⟨xs[n],List.getElem?_eq_getElem hklt⟩
      have hne:=HSk.out x hx
      obtain⟨bb,ob,rp,rc,hqe,hbb,y0,-⟩:=(HBL.out.on HRa.out).get hx
      subst hqe
      have t1:((n:Int)==(xs.length:Int))=false:=bf (by omega)
      have t2:((x.at_:Int) != (k:Int))=true:=aT (by omega)
      have hn1:(n:Int)<(xs.length:Int):=by omega
      clear hk hke hx hne HSk
      go_wp2_with fail
      rw[<-HWa.out]
      clear HWa x0 x1 x2 x3 x4 x5 x6 x7 x8 x9 x10 x11
      go_quiet (fail)
      go_wp2_with fail
      go_roundw
      case rel=>exact⟨t+1,by omega,by go_num,by rw[HC1.out],below_drewN HRa.out _⟩
      case measure=>simp[intOf];omega
    ·have t0:(f.kind != 2)=true:=aT hk
     clear hk
     go_wp2_with fail
     rw[<-HWa.out]
     clear HWa x0 x1 x2 x3 x4 x5 x6 x7 x8 x9 x10 x11
     go_quiet (fail)
     go_wp2_with fail
     go_roundw
     case rel=>exact⟨t+1,by omega,by go_num,by rw[HC1.out],below_drewN HRa.out _⟩
     case measure=>simp[intOf];omega
  ·have hjn:¬(t:Int)<(ps.length:Int):=by omega
   obtain rfl:t=ps.length:=by omega
   have hca:Sv.cnt S ps ps.length=xs.length:=by rw[HEq.out];exact Sv.cnt_all
   rw[hca]
   have t1:((xs.length:Int)==(xs.length:Int))=true:=dD rfl
   have HZ:=yQ (HB3.out.trans (HR.out.mono HB3.out.size))
   clear htl hca
   go_wp2
   go_ret
   exact⟨rfl,HZ.out⟩
end
end Go.Proofs.YtdgacombdcajmaaGreatDoor
