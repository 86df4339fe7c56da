import Derived.Test.YtlgfdgdlaahpfaaGreatDoorA5
import Derived.Lib.BytesEntry
import Derived.Test.YtlgfdgdlaahpfaaGreatDoorA8
import Derived.Test.YtlgfdgdlaahpfaaGreatDoorB31
set_option maxRecDepth 100000
set_option maxHeartbeats 4000000
namespace Go.Proofs.YtlgfdgdlaahpfaaGreatDoor
section
open Go.RowKit
theorem kU:∀l:L8,Lib.indexByte l 0=if l.findIdx (·==0)<l.length then ((l.findIdx (·==0):Nat):Int) else -1
 | []=>by simp[Lib.indexByte]
 |c::l=>by
  rw[Lib.indexByte,List.findIdx_cons,kU l]
  by_cases hc:(c==0)=true
  ·rw[if_pos hc,hc]
   simp
  ·have hc':(c==0)=false:=by simpa using hc
   rw[if_neg hc,hc']
   simp only[cond_false,List.length_cons]
   by_cases hl:l.findIdx (·==0)<l.length
   ·rw[if_pos hl,if_neg (by rw[beq_iff_eq];omega),if_pos (by omega)]
    omega
   ·rw[if_neg hl,if_pos (by rfl),if_neg (by omega)]
theorem bytesOf_map(l:L8):Lib.bytesOf (l.map fun c=>(c.toNat:Int))=l:=by
 unfold Lib.bytesOf
 rw[List.map_map]
 conv=>rhs;rw[<-List.map_id l]
 refine List.map_congr_left fun c _=>?_
 simp
theorem mC(b o c:Nat)(l:L8)(w:World)(h:cg w b o l):
  Calls Tryz.prog 80 #[.slice (some ⟨b,o,none⟩) l.length c,.int .u8 0] w fun e w'=>e=.returned (.int .i64 (Lib.indexByte l 0))∧w'=w:=by
 have hr:=Lib.run_indexByteSlice (P:=Tryz.prog) w b o l.length c (l.map fun c=>(c.toNat:Int)) (by simp) (fun i hi=>by
  rw[h i hi]
  simp[List.getD,hi]) 0
 rw[bytesOf_map] at hr
 have HR:=vQ hr
 clear hr h
 go_enter Tryz.func80,Tryz.ntmps80
 go_wp2
 rw[run_callFunc_extern Tryz.func113 (by kernel_rfl) (by kernel_rfl) (by kernel_rfl) (e:=Extern.BytealgIndexByte.indexByte) (by kernel_rfl),HR.out]
 simp only[Result.andThen]
 rw[Oper.upon_value]
 go_wp2
 go_ret
 exact⟨rfl,rfl⟩
def vh(r:Except Nat L8)(g cap:Nat)(e:Ending):Prop:=match r with
 |.error k=>e=.returned (.tuple #[.slice none 0 0,.int .i64 (k:Nat)])
 |.ok r=>e=.returned (.tuple #[.slice (some ⟨g,1,none⟩) r.length (cap-1),.int .i64 0])
theorem oP(g cap:Nat)(c:UInt8)(t:L8)(hl:t.length<=2201)(hcap:t.length+1<=cap)(w:World)(h:cg w g 0 (c::t)):
  Calls Tryz.prog 57 #[.slice (some ⟨g,0,none⟩) (t.length+1) cap] w fun e w'=>vh (Sc.runOf (c::t)) g cap e∧w'=w:=by
 have c0:w.cell? ⟨g,0,none⟩=some (.int .u8 (c.toNat:Int)):=h 0 (Nat.zero_lt_succ _)
 have ht:cg w g 1 t:=fun j hj=>by
  have h1:=h (j+1) (Nat.succ_lt_succ hj)
  rw[show 1+j=0+(j+1) by omega]
  exact h1
 by_cases hc:c=0
 ·subst hc
  have c1:w.cell? ⟨g,0,none⟩=some (.int .u8 0):=c0
  clear c0
  obtain⟨pv,hpv⟩:∃pv:OA,(if cap=1 then some (⟨g,0,none⟩:Addr) else some ⟨g,1,none⟩)=pv:=⟨_,rfl⟩
  have hpv2:∃o,pv=some ⟨g,o,none⟩∧cg w g o t:=by
   by_cases h1:cap=1
   ·rw[if_pos h1] at hpv
    have h0:t=[]:=List.eq_nil_of_length_eq_zero (by omega)
    subst h0
    exact⟨0,hpv.symm,fun j hj=>by simp at hj⟩
   ·rw[if_neg h1] at hpv
    exact⟨1,hpv.symm,ht⟩
  obtain⟨o,rfl,hco⟩:=hpv2
  have HI:=vQ (mC g o (cap-1) t w hco)
  rw[kU] at HI
  have s1:∀w',(Instr.slice 31 (.slice (some ⟨g,0,none⟩) (t.length+1) cap) (some (.int .i64 1)) none none).run Tryz.prog w'=.ok (.slice (some ⟨g,o,none⟩) t.length (cap-1)) w':=fun w'=>by
   have:=cW (some ⟨g,0,none⟩) (t.length+1) cap 1 (by omega) w'
   rw[show dm (some (⟨g,0,none⟩:Addr)) 1 cap=some ⟨g,o,none⟩ from hpv,Nat.add_sub_cancel] at this
   exact this
  have HR:Hid (Sc.runOf (0::t)=if t.findIdx (·==0)<t.length then (if t.findIdx (·==0)=0 then .error 4 else .ok (t.take (t.findIdx (·==0)))) else if t.length+1=2202 then .error 2 else .error 142):=by
   show _=_
   rw[Sc.runOf_cons,if_neg (by simp)]
   rfl
  obtain⟨i,hi⟩:∃i,i=t.findIdx (·==0):=⟨_,rfl⟩
  rw[<-hi] at HI HR
  clear h ht hco hpv hi
  by_cases hlt:i<t.length
  ·rw[if_pos hlt] at HI HR
   by_cases h0:i=0
   ·subst h0
    rw[if_pos rfl] at HR
    clear hlt
    go_enter Tryz.func57,Tryz.ntmps57
    go_wp2_with fail
    refine HI.out.mono ?_
    rintro e w' ⟨rfl,hw'⟩
    rw[hw']
    clear hw' w'
    go_wp2
    go_ret2
    rw[HR.out]
    exact⟨rfl,rfl⟩
   ·rw[if_neg h0] at HR
    have s2:∀w',(Instr.slice 31 (.slice (some ⟨g,0,none⟩) (t.length+1) cap) (some (.int .i64 1)) (some (.int .i64 (1+(i:Int)))) none).run Tryz.prog w'=.ok (.slice (some ⟨g,1,none⟩) i (cap-1)) w':=fun w'=>by
     have hs:(sizeOf (Tryz.prog.elem 31)).run Tryz.prog w'=.ok 1 w':=by kernel_rfl
     rw[run_slice_lh w' 31 (some ⟨g,0,none⟩) (t.length+1) cap (by kernel_rfl) .i64 .i64 1 (1+(i:Int)) (by omega) (by omega) (by omega),hs]
     have e:cap≠1:=by omega
     have e2:(1+(i:Int)-1).toNat=i:=by omega
     simp[sliced,Result.andThen,e,Addr.add]
     omega
    have g1:((i:Int)==0)=false:=by rw[beq_eq_false_iff_ne];omega
    have g2:(0:Int)<(i:Int):=by omega
    have hb:(i:Int)<=2201:=by omega
    have HL:Hid ((t.take i).length=i):=by show _=_;rw[List.length_take];omega
    clear h0 hlt
    go_enter Tryz.func57,Tryz.ntmps57
    go_wp2_with fail
    refine HI.out.mono ?_
    rintro e w' ⟨rfl,hw'⟩
    rw[hw']
    clear hw' w'
    go_wp2
    go_ret2
    rw[HR.out]
    exact⟨by show _=_;rw[HL.out];rfl,rfl⟩
  ·rw[if_neg hlt] at HI HR
   clear hlt
   by_cases h2:t.length+1=2202
   ·rw[if_pos h2] at HR
    have g2:((t.length:Int)+1==2202)=true:=by rw[beq_iff_eq];omega
    clear h2
    go_enter Tryz.func57,Tryz.ntmps57
    go_wp2_with fail
    refine HI.out.mono ?_
    rintro e w' ⟨rfl,hw'⟩
    rw[hw']
    clear hw' w'
    go_wp2
    go_ret2
    rw[HR.out]
    exact⟨rfl,rfl⟩
   ·rw[if_neg h2] at HR
    have g2:((t.length:Int)+1==2202)=false:=by rw[beq_eq_false_iff_ne];omega
    clear h2
    go_enter Tryz.func57,Tryz.ntmps57
    go_wp2_with fail
    refine HI.out.mono ?_
    rintro e w' ⟨rfl,hw'⟩
    rw[hw']
    clear hw' w'
    go_wp2
    go_ret2
    rw[HR.out]
    exact⟨rfl,rfl⟩
 ·have g0:((c.toNat:Int) != 0)=true:=by
   rw[bne_iff_ne]
   intro h0
   exact hc (UInt8.toNat_inj.1 (by simpa using h0))
  have HR:Hid (Sc.runOf (c::t)=.error 141):=by
   show _=_
   rw[Sc.runOf_cons,if_pos hc]
  clear hc h ht
  go_enter Tryz.func57,Tryz.ntmps57
  go_wp2
  go_ret2
  rw[HR.out]
  exact⟨rfl,rfl⟩
end
section
open Go.RowKit
section
variable {w:World} {B g x k:Nat} {v:Value} {s:Dv.St}
theorem mf(h:aE w B g v s x k)(hd:s.down=false)(p:Int)(hp:p<0∨(s.b.length:Int)<p):
  Calls Tryz.prog 56 #[.pointer (some ⟨g,0,none⟩),.int .i64 p] w fun e w'=>e=.returned (.tuple #[.slice none 0 0,.int .i64 7])∧w'=w:=by
 have HU:=vQ (kUp h)
 rw[hd] at HU
 have HL:=vQ (tK h)
 obtain⟨n,hn⟩:∃n,n=s.b.length:=⟨_,rfl⟩
 rw[<-hn] at HL hp
 clear h hd hn
 by_cases h0:p<0
 ·have g0:decide (p<0)=true:=decide_eq_true h0
  clear hp h0
  go_enter Tryz.func56,Tryz.ntmps56
  go_wp2_with fail
  refine HU.out.mono ?_
  rintro e w' ⟨rfl,hw'⟩
  rw[hw']
  clear hw' w'
  go_wp2
  go_ret2
  exact⟨rfl,rfl⟩
 ·have g0:decide (p<0)=false:=decide_eq_false h0
  have g1:(n:Int)<p:=by omega
  clear hp h0
  go_enter Tryz.func56,Tryz.ntmps56
  go_wp2_with fail
  refine HU.out.mono ?_
  rintro e w' ⟨rfl,hw'⟩
  rw[hw']
  clear hw' w'
  go_wp2_with fail
  refine HL.out.mono ?_
  rintro e w' ⟨rfl,hw'⟩
  rw[hw']
  clear hw' w'
  go_wp2
  go_ret2
  exact⟨rfl,rfl⟩
theorem mg(h:aE w B g v s x k)(hd:s.down=false)(hl:s.b.length<=2097152):
  Calls Tryz.prog 56 #[.pointer (some ⟨g,0,none⟩),.int .i64 (s.b.length:Nat)] w fun e w'=>e=.returned (.tuple #[.slice none 0 0,.int .i64 140])∧w'=w:=by
 have HU:=vQ (kUp h)
 rw[hd] at HU
 have HL:=vQ (tK h)
 obtain⟨n,hn⟩:∃n,n=s.b.length:=⟨_,rfl⟩
 rw[<-hn] at HL hl ⊢
 clear h hd hn
 have g0:decide ((n:Int)<0)=false:=decide_eq_false (by omega)
 go_enter Tryz.func56,Tryz.ntmps56
 go_wp2_with fail
 refine HU.out.mono ?_
 rintro e w' ⟨rfl,hw'⟩
 rw[hw']
 clear hw' w'
 go_wp2_with fail
 refine HL.out.mono ?_
 rintro e w' ⟨rfl,hw'⟩
 rw[hw']
 clear hw' w'
 go_wp2_with fail
 refine HL.out.mono ?_
 rintro e w' ⟨rfl,hw'⟩
 rw[hw']
 clear hw' w'
 go_wp2
 go_ret2
 exact⟨rfl,rfl⟩
theorem nZ(h:aE w B g v s x k)(hd:s.down=false)(hl:s.b.length<=2097152)(ht:s.told+s.b.length<=9223372036854775807)(p:Nat)(hp:p<s.b.length):
  Calls Tryz.prog 56 #[.pointer (some ⟨g,0,none⟩),.int .i64 p] w fun e w'=>∃q cap,e=.returned (.tuple #[.slice q ((s.b.drop p).take 2202).length cap,.int .i64 0])∧Has w' w.1.size (.slice q ((s.b.drop p).take 2202).length cap) ((s.b.drop p).take 2202)∧aE w' B g v { s with told:=s.told+((s.b.drop p).take 2202).length } x k∧Aside (fun k=>k=g) w w':=by
 have HU:=vQ (kUp h)
 rw[hd] at HU
 have HL:=vQ (tK h)
 have hR:=uI h (p:Int) 2202 (by omega) (by omega) (by omega) hl ht
 have hr:Dv.read s (p:Int) 2202=((s.b.drop p).take 2202,0,{ s with told:=s.told+((s.b.drop p).take 2202).length }):=by
  unfold Dv.read
  rw[if_neg (by omega)]
  simp
 rw[hr] at hR
 obtain⟨L,hL⟩:∃L,L=(s.b.drop p).take 2202:=⟨_,rfl⟩
 rw[<-hL] at hR ⊢
 have HR:=vQ hR
 obtain⟨n,hn⟩:∃n,n=s.b.length:=⟨_,rfl⟩
 rw[<-hn] at HL hp hl
 have g0:decide ((p:Int)<0)=false:=decide_eq_false (by omega)
 have g1:decide ((n:Int)<(p:Int))=false:=decide_eq_false (by omega)
 have g2:((p:Int)==(n:Int))=false:=by rw[beq_eq_false_iff_ne];omega
 have g3:decide (n<p)=false:=decide_eq_false (by omega)
 have g4:(p==n)=false:=by rw[beq_eq_false_iff_ne];omega
 clear h hd hn hR hr hp ht hL
 go_enter Tryz.func56,Tryz.ntmps56
 go_wp2_with fail
 refine HU.out.mono ?_
 rintro e w' ⟨rfl,hw'⟩
 rw[hw']
 clear hw' w'
 go_wp2_with fail
 refine HL.out.mono ?_
 rintro e w' ⟨rfl,hw'⟩
 rw[hw']
 clear hw' w'
 go_wp2_with fail
 refine HL.out.mono ?_
 rintro e w' ⟨rfl,hw'⟩
 rw[hw']
 clear hw' w'
 go_wp2_with fail
 refine HR.out.mono ?_
 rintro e w' ⟨q,cap,rfl,h1,h2,h3⟩
 have H1:=vQ h1
 have H2:=vQ h2
 have H3:=vQ h3
 clear h1 h2 h3 HR
 go_wp2
 go_ret2
 exact⟨q,cap,rfl,H1.out,H2.out,H3.out⟩
def AtA(r:Except Nat (Fr×Nat))(w:World)(e:Ending)(w':World):Prop:=match r with
 |.error k=>e=.returned (.tuple #[.agg eM,.int .i64 0,.int .i64 (k:Nat)])
 |.ok (f,m)=>∃u,e=.returned (.tuple #[.agg u,.int .i64 (m:Nat),.int .i64 0])∧cV w' w.1.size u f
theorem jV{w w1:World}{d0 d1 d2 d3 d4 d5 d6 d7 d8 d9 d10:Value}(hb:w1.1[w.1.size]?=some (.cells #[d0,d1,d2,d3,d4,d5,d6,d7,d8,d9,d10] 36 (0,0)))(ha:Aside (fun k=>k=g) w w1)(h:aE w1 B g v s x k)(hg:g<w.1.size)(c0 c1 c2 c3 c4 c5 c6 c7 c8 c9 c10:Value):
  (eX w1 w.1.size c0 c1 c2 c3 c4 c5 c6 c7 c8 c9 c10).1[w.1.size]?=some (.cells #[c0,c1,c2,c3,c4,c5,c6,c7,c8,c9,c10] 36 (0,0))∧aE (eX w1 w.1.size c0 c1 c2 c3 c4 c5 c6 c7 c8 c9 c10) B g v s x k∧Aside (fun k=>k=g) w (eX w1 w.1.size c0 c1 c2 c3 c4 c5 c6 c7 c8 c9 c10):=by
 have hs:=cG w1 w.1.size c0 c1 c2 c3 c4 c5 c6 c7 c8 c9 c10
 refine⟨dh hb _ _ _ _ _ _ _ _ _ _ _,h.aside hs (by omega) (fun j hj hc=>?_),ha.trans hs (fun i hi hc=>by omega)⟩
 have:=du h.has hb (by decide)
 exact this (by rw[hj,hc])
theorem eJ{w w1:World}{d0 d1 d2 d3 d4 d5 d6 d7 d8 d9 d10:Value}(hb:w1.1[w.1.size]?=some (.cells #[d0,d1,d2,d3,d4,d5,d6,d7,d8,d9,d10] 36 (0,0)))(ha:Aside (fun k=>k=g) w w1)(h:aE w1 B g v s x k)(hg:g<w.1.size)(c0 c1 c2 c3 c4 c5 c6 c7 c8 c9 c10:Value)(o:Obj):
  (eX (w1.alloc o) w.1.size c0 c1 c2 c3 c4 c5 c6 c7 c8 c9 c10).1[w.1.size]?=some (.cells #[c0,c1,c2,c3,c4,c5,c6,c7,c8,c9,c10] 36 (0,0))∧aE (eX (w1.alloc o) w.1.size c0 c1 c2 c3 c4 c5 c6 c7 c8 c9 c10) B g v s x k∧Aside (fun k=>k=g) w (eX (w1.alloc o) w.1.size c0 c1 c2 c3 c4 c5 c6 c7 c8 c9 c10):=by
 exact jV ((aD _ o (aw hb)).trans hb) (ha.alloc o) (h.below (vZ.alloc vX o)) hg c0 c1 c2 c3 c4 c5 c6 c7 c8 c9 c10
theorem il{w:World}{B:Nat}{q:OA}{n cap:Nat}{l:L8}(hh:Has w B (.slice q n cap) l)(h0:l≠[]):∃g,q=some ⟨g,0,none⟩∧bh w B g cap l∧n=l.length:=by
 rcases hh.form with ⟨h1,h2⟩ | ⟨g,cap',h1,h2⟩
 ·exact absurd h2 h0
 ·injection h1 with h3 h5 h4
  subst h4
  exact⟨g,h3,h2,h5⟩
theorem cV.beside14{F:Nat->Prop}{w w':World}{B:Nat}{u:AV}{f:Fr}(h:cV w B u f)(ha:Aside F w w')(hF:∀k,F k->k<B):cV w' B u f:=by
 obtain⟨sp,sc,bp,bc,ep,ec,h0,h1,h2,h3,h4,h5⟩:=h.out
 refine⟨sp,sc,bp,bc,ep,ec,h0,?_,h2.aside ha (fun k hk hf=>by have:=(h2.lt k hk).1;have:=hF k hf;omega),h3,h4.aside ha (fun k hk hf=>by have:=(h4.lt k hk).1;have:=hF k hf;omega),h5⟩
 obtain⟨v,us,Fs,e,hb,hl⟩:=h1.out
 exact⟨v,us,Fs,e,hb.aside ha (fun g hg hf=>by have:=(hb.lt g hg).1;have:=hF g hf;omega) (fun j hj k hk hf=>by have:=(hb.range j hj k hk).1;have:=hF k hf;omega),hl⟩
theorem cV.low14{w:World}{B B':Nat}{u:AV}{f:Fr}(h:cV w B u f)(hB:B'<=B):cV w B' u f:=by
 obtain⟨sp,sc,bp,bc,ep,ec,h0,h1,h2,h3,h4,h5⟩:=h.out
 exact⟨sp,sc,bp,bc,ep,ec,h0,eW h1 hB,h2.low hB,h3,h4.low hB,h5⟩
theorem re{l:L8}{e:Nat}(h:Fr.dec l=.error e):e≠0:=by
 unfold Fr.dec at h
 split at h
 ·next e' he=>injection h with h;rw[<-h];exact ng he
 ·next b hb=>
  unfold Fr.rdF at h
  have hnb:∀{lim:Nat} {l:L8} {e:Nat},Fr.nb lim l=.error e->e=5:=by
   intro lim l e h
   unfold Fr.nb at h
   split at h
   ·injection h with h;omega
   ·split at h
    ·cases h
    ·injection h with h;omega
  have hnbs:∀(ls:List Nat) {l:L8} {e:Nat},Fr.nbs ls l=.error e->e=5:=by
   intro ls
   induction ls with
   |nil=>intro l e h;rw[Fr.nbs] at h;cases h
   |cons a ls ih=>
    intro l e h
    rw[Fr.nbs] at h
    split at h
    ·next e' he=>injection h with h;rw[<-h];exact hnb he
    ·split at h
     ·next e' he=>injection h with h;rw[<-h];exact ih he
     ·cases h
  have hrdE:∀(m:Nat) {l:L8} {e:Nat},Fr.rdE m l=.error e->e=5:=by
   intro m
   induction m with
   |zero=>intro l e h;rw[Fr.rdE] at h;cases h
   |succ m ih=>
    intro l e h
    rw[Fr.rdE] at h
    split at h
    ·next e' he=>injection h with h;rw[<-h];exact hnbs _ he
    ·split at h
     ·next e' he=>injection h with h;rw[<-h];exact ih he
     ·cases h
  split at h
  ·unfold Fr.rdS at h
   split at h
   ·next e' he=>injection h with h;rw[<-h,hnb he];decide
   ·split at h
    ·next e' he=>injection h with h;rw[<-h];exact Sch.read_ne he
    ·cases h
  ·split at h
   ·unfold Fr.rdD at h
    split at h
    ·next e' he=>injection h with h;rw[<-h,hnbs _ he];decide
    ·split at h
     ·injection h with h;omega
     ·cases h
   ·split at h
    ·unfold Fr.rdI at h
     split at h
     ·next e' he=>injection h with h;rw[<-h,hnbs _ he];decide
     ·split at h
      ·next e' he=>injection h with h;rw[<-h,hrdE _ he];decide
      ·split at h
       ·cases h
       ·injection h with h;omega
    ·injection h with h;omega
theorem pK{l:L8}{e:Nat}(h:Sc.runOf l=.error e):e≠0:=by
 unfold Sc.runOf at h
 split at h
 ·injection h with h;omega
 ·unfold Sc.runT at h
  split at h
  ·split at h
   ·injection h with h;omega
   ·cases h
  ·split at h <;> injection h with h <;> omega
end
end
section
open Go.RowKit
section
variable {w:World} {B g x k:Nat} {v:Value} {s:Dv.St}
theorem nt(h:aE w B g v s x k)(p:Int)(er:Nat)(hne:er≠0)(hC:∀W0,Below w.1.size w W0->Calls Tryz.prog 56 #[.pointer (some ⟨g,0,none⟩),.int .i64 p] W0 fun e w'=>e=.returned (.tuple #[.slice none 0 0,.int .i64 (er:Nat)])∧w'=W0):
  Calls Tryz.prog 22 #[.pointer (some ⟨g,0,none⟩),.int .i64 p] w fun e w'=>e=.returned (.tuple #[.agg eM,.int .i64 0,.int .i64 (er:Nat)])∧aE w' B g v s x k∧Aside (fun k=>k=g) w w':=by
 obtain⟨W0,hW0⟩:∃W0,W0=w.alloc (.cells eM 36):=⟨_,rfl⟩
 have hb0:Below w.1.size w W0:=by rw[hW0];exact vY
 have hk0:W0.1[w.1.size]?=some (.cells eM 36 (0,0)):=by rw[hW0];exact ag w _
 have HW0:Hid (w.alloc (.cells #[.int .i64 0,.int .i64 0,.slice none 0 0,.int .i64 0,.int .i64 0,.int .i64 0,.slice none 0 0,.int .i64 0,.int .i64 0,.int .i64 0,.slice none 0 0] 36)=W0):=hW0.symm
 have HBad:=vQ (jV (w:=w) hk0 (ae hb0 _) (h.below hb0) h.lt (.int .i64 0) (.int .i64 0) (.slice none 0 0) (.int .i64 0) (.int .i64 0) (.int .i64 0) (.slice none 0 0) (.int .i64 0) (.int .i64 0) (.int .i64 0) (.slice none 0 0))
 have HC:=vQ (hC W0 hb0)
 have g0:((er:Int) != 0)=true:=by rw[bne_iff_ne];omega
 obtain⟨x0,x1,x2,x3,x4,x5,x6,x7,x8,x9,x10⟩:=aO hk0
 obtain⟨y0,y1,y2,y3,y4,y5,y6,y7,y8,y9,y10⟩:=iz hk0
 clear hW0 hb0 hk0 h hne hC
 go_enter Tryz.func22,Tryz.ntmps22
 go_wp2_with fail
 rw[HW0.out]
 refine HC.out.mono ?_
 rintro e w' ⟨rfl,hw'⟩
 rw[hw']
 clear hw' w' HC
 go_wp2
 refine bodyPost_ret (cT rfl _ _ w.1.size _ _ _ _ rfl HBad.out.1 Tryz.underlying36 rfl (by kernel_rfl)) rfl ?_
 exact⟨rfl,HBad.out.2.1,HBad.out.2.2⟩
end
end
section
open Go.RowKit
section
variable {w:World} {B g x k:Nat} {v:Value} {s:Dv.St}
theorem tN(h:aE w B g v s x k)(hd:s.down=false)(hl:s.b.length<=2097152)(ht:s.told+s.b.length<=9223372036854775807)(hv:Hv w)(hB:2<B)(p:Nat)(hp:p<s.b.length)(L:L8)(hL:L=(s.b.drop p).take 2202):
  Calls Tryz.prog 22 #[.pointer (some ⟨g,0,none⟩),.int .i64 p] w fun e w'=>AtA (match Sc.runOf L with
   |.error e=>.error e
   |.ok r=>match Fr.dec r with
    |.error e=>.error e
    |.ok f=>.ok (f,p+r.length+2)) w e w'∧aE w' B g v { s with told:=s.told+L.length } x k∧Aside (fun k=>k=g) w w':=by
 obtain⟨W0,hW0⟩:∃W0,W0=w.alloc (.cells eM 36):=⟨_,rfl⟩
 have hb0:Below w.1.size w W0:=by rw[hW0];exact vY
 have hk0:W0.1[w.1.size]?=some (.cells eM 36 (0,0)):=by rw[hW0];exact ag w _
 have hz0:W0.1.size=w.1.size+1:=by rw[hW0];simp
 have hgl:=h.lt
 have hbase:=h.base
 have HW0:Hid (w.alloc (.cells #[.int .i64 0,.int .i64 0,.slice none 0 0,.int .i64 0,.int .i64 0,.int .i64 0,.slice none 0 0,.int .i64 0,.int .i64 0,.int .i64 0,.slice none 0 0] 36)=W0):=hW0.symm
 have hR:=nZ (h.below hb0) hd hl ht p hp
 have hpl:(p:Int)<=2097152:=by omega
 have hlen:L.length<=2202:=by rw[hL,List.length_take];omega
 have hne:L≠[]:=by
  intro hc
  rw[hL] at hc
  have:=congrArg List.length hc
  simp only[List.length_take,List.length_drop,List.length_nil] at this
  omega
 rw[<-hL] at hR
 obtain⟨R,hRR⟩:∃R,R=(match Sc.runOf L with
   |.error e=>.error e
   |.ok r=>match Fr.dec r with
    |.error e=>.error e
    |.ok f=>.ok (f,p+r.length+2):Except Nat (Fr×Nat)):=⟨_,rfl⟩
 rw[<-hRR]
 have HR:=vQ hR
 have HK0:=vQ hk0
 have HB0:=vQ hb0
 have HHv:=vQ hv
 have HRR:=vQ hRR
 clear hW0 hb0 hk0 h hd hl ht hv hp hR hL hRR
 go_enter Tryz.func22,Tryz.ntmps22
 go_wp2_with fail
 rw[HW0.out]
 refine HR.out.mono ?_
 rintro e w1 ⟨q,cap,rfl,hh,hk1,ha1⟩
 obtain⟨gq,rfl,hm,-⟩:=il hh hne
 have hcells:cg w1 gq 0 L:=hm.free.2.1
 obtain⟨q',cap',hcc,-,hcapl⟩:=hh.at
 injection hcc with hq1 _ hcc
 subst hq1
 subst hcc
 obtain⟨c,t,rfl⟩:∃c t,L=c::t:=by
  cases L with
  |nil=>exact absurd rfl hne
  |cons c t=>exact⟨c,t,rfl⟩
 rw[List.length_cons] at hlen hcapl hk1 ⊢
 have hk1b:w1.1[w.1.size]?=some (.cells eM 36 (0,0)):=(ha1.block _ (by omega) (by omega)).trans HK0.out
 have haw:Aside (fun k=>k=g) w w1:=(ae HB0.out _).trans ha1 (fun _ _ h=>h)
 have hz1:=ha1.size
 have hF:=oP gq cap c t (by omega) hcapl w1 hcells
 obtain⟨rr,hrr⟩:∃rr,rr=Sc.runOf (c::t):=⟨_,rfl⟩
 rw[<-hrr] at hF HRR
 have HF:=vQ hF
 have hro:∀r,rr=.ok r->r.length<=t.length∧cg w1 gq 1 r:=fun r hr=>by
  rw[hrr] at hr
  obtain⟨z,hz,-,-⟩:=Sc.runOf_ok (by simp) hr
  injection hz with _ hz
  refine⟨by rw[hz];simp,fun j hj=>?_⟩
  have hjt:j<t.length:=by rw[hz];simp;omega
  have h1:=hcells (j+1) (Nat.succ_lt_succ hjt)
  rw[show 1+j=0+(j+1) by omega,h1]
  have h2:(c::t)[j+1]'(Nat.succ_lt_succ hjt)=r[j]:=by
   show t[j]=r[j]
   simp[hz,List.getElem_append_left hj]
  rw[h2]
 have hre:∀er,rr=.error er->er≠0:=fun er hr=>by rw[hrr] at hr;exact pK hr
 have HRo:=vQ hro
 have HGq:Hid (gq<w1.1.size):=(hh.lt gq rfl).2
 have HK1:=vQ hk1
 have HK1b:=vQ hk1b
 have HAw:=vQ haw
 have HHv1:Hid (Hv w1):=HHv.out.on (haw.below (B:=B) (by omega) (fun k hk hc=>by omega)) hB
 clear hh hm hcells hk1 hk1b haw ha1 hF hrr hro HR HHv HK0 HB0 hne
 cases rr with
 |error er=>
  have hne:=hre er rfl
  have g0:((er:Int) != 0)=true:=by rw[bne_iff_ne];omega
  have HRe:Hid (R=.error er):=HRR.out
  have HBad:=vQ (jV (w:=w) HK1b.out HAw.out HK1.out hgl (.int .i64 0) (.int .i64 0) (.slice none 0 0) (.int .i64 0) (.int .i64 0) (.int .i64 0) (.slice none 0 0) (.int .i64 0) (.int .i64 0) (.int .i64 0) (.slice none 0 0))
  obtain⟨x0,x1,x2,x3,x4,x5,x6,x7,x8,x9,x10⟩:=aO HK1b.out
  obtain⟨y0,y1,y2,y3,y4,y5,y6,y7,y8,y9,y10⟩:=iz HK1b.out
  clear hre hne HRR HRo
  go_wp2_with fail
  refine HF.out.mono ?_
  rintro e w' ⟨he,hw'⟩
  replace he:e=.returned (.tuple #[.slice none 0 0,.int .i64 (er:Nat)]):=he
  subst he
  rw[hw']
  clear hw' w' HF
  go_wp2
  refine bodyPost_ret (cT rfl _ _ w.1.size _ _ _ _ rfl HBad.out.1 Tryz.underlying36 rfl (by kernel_rfl)) rfl ?_
  rw[HRe.out]
  exact⟨rfl,HBad.out.2.1,HBad.out.2.2⟩
 |ok r=>
  obtain⟨hrl,hrc⟩:=HRo.out r rfl
  have hD:=sG (some ⟨gq,1,none⟩) (cap-1) r (by omega) (by omega) w1 HHv1.out (.inr ⟨gq,1,rfl,HGq.out,hrc⟩)
  have HRe:Hid (R=match Fr.dec r with
   |.error e=>.error e
   |.ok f=>.ok (f,p+r.length+2)):=HRR.out
  have HD:=vQ hD
  clear hre HRR HRo hrc hD
  go_wp2_with fail
  refine HF.out.mono ?_
  rintro e w' ⟨he,hw'⟩
  replace he:e=.returned (.tuple #[.slice (some ⟨gq,1,none⟩) r.length (cap-1),.int .i64 0]):=he
  subst he
  rw[hw']
  clear hw' w' HF
  go_wp2_with fail
  refine HD.out.mono ?_
  intro e w2 h2
  obtain⟨dr,hdr⟩:∃dr,dr=Fr.dec r:=⟨_,rfl⟩
  rw[<-hdr] at h2 HRe
  cases dr with
  |error er=>
   obtain⟨rfl,hb2⟩:=h2
   have hne:=re hdr.symm
   have g0:((er:Int) != 0)=true:=by rw[bne_iff_ne];omega
   have HRf:Hid (R=.error er):=HRe.out
   have hk2:=(hb2.block _ (aw HK1b.out)).trans HK1b.out
   have HBad:=vQ (eJ (w:=w) hk2 (HAw.out.trans (ae hb2 (fun k=>k=g)) (fun _ _ h=>h)) (HK1.out.below hb2) hgl (.int .i64 0) (.int .i64 0) (.slice none 0 0) (.int .i64 0) (.int .i64 0) (.int .i64 0) (.slice none 0 0) (.int .i64 0) (.int .i64 0) (.int .i64 0) (.slice none 0 0))
   obtain⟨x0,x1,x2,x3,x4,x5,x6,x7,x8,x9,x10⟩:=gi hk2
   obtain⟨y0,y1,y2,y3,y4,y5,y6,y7,y8,y9,y10⟩:=ft hk2
   clear hb2 hne hdr HRe hk2 HD
   go_wp2
   refine bodyPost_ret (cT rfl _ _ w.1.size _ _ _ _ rfl (HBad.out _).1 Tryz.underlying36 rfl (by kernel_rfl)) rfl ?_
   rw[HRf.out]
   exact⟨rfl,(HBad.out _).2.1,(HBad.out _).2.2⟩
  |ok f=>
   obtain⟨u,rfl,hfo,hb2⟩:=h2
   have HRf:Hid (R=.ok (f,p+r.length+2)):=HRe.out
   obtain⟨sp,sc,bp,bc,ep,ec,hu,-⟩:=hfo.out
   unfold av at hu
   subst hu
   have HFo:=vQ hfo
   obtain⟨b0,hb0⟩:∃x,x=f.kind:=⟨_,rfl⟩
   obtain⟨b1,hb1⟩:∃x,x=f.number:=⟨_,rfl⟩
   obtain⟨b2,hbb2⟩:∃x,x=f.cols.length:=⟨_,rfl⟩
   obtain⟨b3,hb3⟩:∃x,x=f.seq:=⟨_,rfl⟩
   obtain⟨b4,hb4⟩:∃x,x=f.first:=⟨_,rfl⟩
   obtain⟨b5,hb5⟩:∃x,x=f.rows:=⟨_,rfl⟩
   obtain⟨b6,hb6⟩:∃x,x=f.block.length:=⟨_,rfl⟩
   obtain⟨b7,hb7⟩:∃x,x=f.index.at_:=⟨_,rfl⟩
   obtain⟨b8,hb8⟩:∃x,x=f.index.frames:=⟨_,rfl⟩
   obtain⟨b9,hb9⟩:∃x,x=f.index.rows:=⟨_,rfl⟩
   obtain⟨b10,hb10⟩:∃x,x=f.index.entries.length:=⟨_,rfl⟩
   rw[<-hb0,<-hb1,<-hbb2,<-hb3,<-hb4,<-hb5,<-hb6,<-hb7,<-hb8,<-hb9,<-hb10] at HFo ⊢
   have hk2:=(hb2.block _ (aw HK1b.out)).trans HK1b.out
   have HDone:=vQ (eJ (w:=w) hk2 (HAw.out.trans (ae hb2 (fun k=>k=g)) (fun _ _ h=>h)) (HK1.out.below hb2) hgl (.int .i64 b0) (.int .i64 b1) (.slice sp b2 sc) (.int .i64 b3) (.int .i64 b4) (.int .i64 b5) (.slice bp b6 bc) (.int .i64 b7) (.int .i64 b8) (.int .i64 b9) (.slice ep b10 ec))
   have HFin:Hid (∀o,cV (eX (w2.alloc o) w.1.size (.int .i64 b0) (.int .i64 b1) (.slice sp b2 sc) (.int .i64 b3) (.int .i64 b4) (.int .i64 b5) (.slice bp b6 bc) (.int .i64 b7) (.int .i64 b8) (.int .i64 b9) (.slice ep b10 ec)) w.1.size #[.int .i64 b0,.int .i64 b1,.slice sp b2 sc,.int .i64 b3,.int .i64 b4,.int .i64 b5,.slice bp b6 bc,.int .i64 b7,.int .i64 b8,.int .i64 b9,.slice ep b10 ec] f):=fun o=>by
    have h1:=HFo.out.beside14 (ae (vZ.alloc vX o) (fun _=>False)) (fun k hk=>hk.elim)
    exact(h1.beside14 (cG (w2.alloc o) w.1.size (.int .i64 b0) (.int .i64 b1) (.slice sp b2 sc) (.int .i64 b3) (.int .i64 b4) (.int .i64 b5) (.slice bp b6 bc) (.int .i64 b7) (.int .i64 b8) (.int .i64 b9) (.slice ep b10 ec)) (fun k hk=>by omega)).low14 (by omega)
   obtain⟨x0,x1,x2,x3,x4,x5,x6,x7,x8,x9,x10⟩:=gi hk2
   obtain⟨y0,y1,y2,y3,y4,y5,y6,y7,y8,y9,y10⟩:=ft hk2
   clear hfo hb2 hdr HRe hk2 HD hb0 hb1 hbb2 hb3 hb4 hb5 hb6 hb7 hb8 hb9 hb10 HFo
   go_wp2
   refine bodyPost_ret (cT rfl _ _ w.1.size _ _ _ _ rfl (HDone.out _).1 Tryz.underlying36 rfl (by kernel_rfl)) rfl ?_
   rw[HRf.out]
   exact⟨⟨_,rfl,HFin.out _⟩,(HDone.out _).2.1,(HDone.out _).2.2⟩
theorem kAt(h:aE w B g v s x k)(hd:s.down=false)(hl:s.b.length<=2097152)(ht:s.told+s.b.length<=9223372036854775807)(hv:Hv w)(hB:2<B)(p:Int):
  Calls Tryz.prog 22 #[.pointer (some ⟨g,0,none⟩),.int .i64 p] w fun e w'=>AtA (Sc.at_ s.b p) w e w'∧aE w' B g v { s with told:=s.told+Sc.reads s.b p } x k∧Aside (fun k=>k=g) w w':=by
 by_cases hp:p<0∨(s.b.length:Int)<=p
 ·have hr0:Sc.reads s.b p=0:=by unfold Sc.reads;rw[if_pos hp]
  have hs:{ s with told:=s.told+Sc.reads s.b p }=s:=by rw[hr0];rfl
  rw[hs]
  by_cases hp2:p<0∨(s.b.length:Int)<p
  ·have he:Sc.at_ s.b p=.error 7:=by unfold Sc.at_;rw[if_pos hp2]
   rw[he]
   exact nt h p 7 (by decide) (fun W0 hb=>mf (h.below hb) hd p hp2)
  ·have hp3:p=(s.b.length:Int):=by omega
   have he:Sc.at_ s.b p=.error 140:=by unfold Sc.at_;rw[if_neg hp2,if_pos hp3]
   rw[he]
   refine nt h p 140 (by decide) (fun W0 hb=>?_)
   rw[hp3]
   exact mg (h.below hb) hd hl
 ·obtain⟨q,rfl⟩:∃q:Nat,p=(q:Int):=⟨p.toNat,by omega⟩
  have hq:q<s.b.length:=by omega
  have hr0:Sc.reads s.b (q:Int)=((s.b.drop q).take 2202).length:=by unfold Sc.reads;rw[if_neg hp];rfl
  have he:Sc.at_ s.b (q:Int)=(match Sc.runOf ((s.b.drop q).take 2202) with
   |.error e=>.error e
   |.ok r=>match Fr.dec r with
    |.error e=>.error e
    |.ok f=>.ok (f,q+r.length+2)):=by
   unfold Sc.at_
   rw[if_neg (by omega),if_neg (by omega)]
   rfl
  rw[he,hr0]
  exact tN h hd hl ht hv hB q hq _ rfl
end
end
end Go.Proofs.YtlgfdgdlaahpfaaGreatDoor
