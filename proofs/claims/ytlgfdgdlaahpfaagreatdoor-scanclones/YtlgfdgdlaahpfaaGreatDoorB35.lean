import Derived.Test.YtlgfdgdlaahpfaaGreatDoorA5
set_option maxRecDepth 100000
set_option maxHeartbeats 4000000
namespace Go.Proofs.YtlgfdgdlaahpfaaGreatDoor
open Go.RowKit Go.Maps
section
variable {w:World} {B a M n:Nat} {v:Value} {g:Int->Option Value} {s:Wk} {G:Nat->Prop}
theorem tM(h:ao w B a M n v g s G)(f:Fr)(u:AV)(hf:aB w u f)(pl:Int)(hpl:0<=pl∧pl<1099511627776)(hsq:0<=f.seq∧f.seq<1099511627776)(hfi:0<=f.first∧f.first<1099511627776)(hB:B<=w.1.size):
    Calls Tryz.prog 63 #[.pointer (some ⟨a,0,none⟩),.agg u,.int .i64 pl] w fun e w'=>e=.returned (.tuple #[])∧bW w w' B a M n v (Sc.enter s f pl) G:=by
  obtain⟨sp,sc,bp,bc,ep,ec,rfl,-⟩:=hf.out
  unfold av
  obtain⟨W0,hW0⟩:∃W0,W0=w.alloc (.cells #[.int .i64 f.kind,.int .i64 f.number,.slice sp f.cols.length sc,.int .i64 f.seq,.int .i64 f.first,.int .i64 f.rows,.slice bp f.block.length bc,.int .i64 f.index.at_,.int .i64 f.index.frames,.int .i64 f.index.rows,.slice ep f.index.entries.length ec] 36):=⟨_,rfl⟩
  have hb0:Below w.1.size w W0:=by rw[hW0];exact vY
  have hbk:=ag w (.cells #[.int .i64 f.kind,.int .i64 f.number,.slice sp f.cols.length sc,.int .i64 f.seq,.int .i64 f.first,.int .i64 f.rows,.slice bp f.block.length bc,.int .i64 f.index.at_,.int .i64 f.index.frames,.int .i64 f.index.rows,.slice ep f.index.entries.length ec] 36)
  rw[<-hW0] at hbk
  have x3:W0.cell? ⟨w.1.size,3,none⟩=some (.int .i64 f.seq):=aa hbk 3
  have x4:W0.cell? ⟨w.1.size,4,none⟩=some (.int .i64 f.first):=aa hbk 4
  have hz0:W0.1.size=w.1.size+1:=by rw[hW0];simp
  have HW0:Hid (w.alloc (.cells #[.int .i64 f.kind,.int .i64 f.number,.slice sp f.cols.length sc,.int .i64 f.seq,.int .i64 f.first,.int .i64 f.rows,.slice bp f.block.length bc,.int .i64 f.index.at_,.int .i64 f.index.frames,.int .i64 f.index.rows,.slice ep f.index.entries.length ec] 36)=W0):=hW0.symm
  have h0:=h.on hb0
  obtain⟨q,d,hv,hqd,-,-⟩:=h0.ents.ents
  subst hv
  have c0:W0.cell? ⟨a,0,none⟩=some (.map (some M)):=h0.cell 0
  have c1:W0.cell? ⟨a,1,none⟩=some (.int .i64 s.number):=h0.cell 1
  have c5:W0.cell? ⟨a,5,none⟩=some (.slice q s.ents.length d):=h0.cell 5
  have k5:w.cell? ⟨a,5,none⟩=some (.slice q s.ents.length d):=h.cell 5
  have HH:=vQ h0
  have HB0:=vQ hb0
  have hgl:=h.good.ents
  have HGd:=vQ (Sc.good_enter h.good f pl hpl hfi)
  have HE:Hid (Sc.enter s f pl=if f.seq % 4=0∧s.ents.length<64 then { s with ents:=s.ents++[⟨pl,f.first,Sc.placeAt s s.number⟩] } else s):=rfl
  obtain⟨se,hse⟩:∃se,se=Sc.enter s f pl:=⟨_,rfl⟩
  rw[<-hse] at HE HGd ⊢
  have hal:=h.lt
  clear h hf hW0 hb0 hbk h0 hse
  by_cases hc4:f.seq % 4=0
  · have g4:(f.seq.tmod 4==0)=true:=by rw[beq_iff_eq,Int.tmod_eq_emod_of_nonneg hsq.1];exact hc4
    by_cases hl:s.ents.length<64
    · have g6:(s.ents.length:Int)<64:=by omega
      rw[if_pos ⟨hc4,hl⟩] at HE
      go_enter Tryz.func63,Tryz.ntmps63
      go_wp2_with fail
      rw[HW0.out]
      obtain⟨pp,nn,cc,hgv⟩:=HH.out.value s.number
      have hlk:=(HH.out.on ((Below.refl W0.1.size W0).drew)).map.look (m:=s.number) ⟨by have:=HH.out.good.number;omega,by have:=HH.out.good.number;omega⟩
      rw[hgv] at hlk
      obtain⟨P,hP⟩:∃P,P=Sc.placeAt s s.number:=⟨_,rfl⟩
      rw[<-hP] at hlk HE
      have HP:=vQ hP
      have e0:∀o,(W0.alloc o).drew.cell? ⟨a,5,none⟩=some (.slice q s.ents.length d):=fun o=>ab ((Below.refl _ W0).alloc vX o).drew c5
      have hfp:=lg pp nn cc P
      have HZ0:=vQ hz0
      clear HW0 hc4 g4 hl hgv hP k5 x3 hz0
      go_region_law (first
        | (refine gP (B:=B) (es:=s.ents) (v:=.slice q s.ents.length d) (by exact HH.out.ents.on vY.drew) ⟨pl,f.first,P⟩ (ad:=W0.1.size) (by exact ag W0 _) (by omega) (by have:=HZ0.out;simp;omega) (H:=W0.1.size+1) (by simp) (.tmp 22) (.tmp 37) (by rfl) (by rfl) (by rfl) (by rfl) ?_
           intro g4 cap4 w4 hn4 hg4 hx4
           have hw:=(HH.out.on ((Below.refl W0.1.size W0).alloc vX (.cells #[.int .i64 pl,.int .i64 f.first,.int .i64 P] 64)).drew).entered hn4 hg4 (hx4.imp id (fun h=>by rw[h];simp)) HE.out HGd.out
           have hl4:=((bY hg4).block a (by have:=HZ0.out;simp;omega) HH.out.va)
           have HWk:=vQ hw
           have hk4:=hl4.trans (HH.out.on ((Below.refl W0.1.size W0).alloc vX (.cells #[.int .i64 pl,.int .i64 f.first,.int .i64 P] 64)).drew).lies
           have q5:w4.cell? ⟨a,5,none⟩=some (.slice q s.ents.length d):=aa hk4 5
           have q6:w4.frozen? ⟨a,5,none⟩=false:=ac hk4 5
           have HX4:=vQ hx4
           clear hn4 hg4 hx4 hw hl4 hk4)
        |fail)
      all_goals
        go_wp2
        go_end0
        exact⟨rfl,_,_,HWk.out.1,(ae (HB0.out.trans (((Below.refl W0.1.size W0).alloc vX _).drew.mono HB0.out.size)) _).trans HWk.out.2 (fun _ _ h=>h),fun i hi=>by
          simp only[Value.ownBlock,Option.some.injEq] at hi
          subst hi
          rcases HX4.out with h | h
          · exact .inl h
          · exact .inr (by have:=HB0.out.size;omega)⟩
    · have g6:decide ((s.ents.length:Int)<64)=false:=decide_eq_false (by omega)
      rw[if_neg (fun hc=>hl hc.2)] at HE
      go_enter Tryz.func63,Tryz.ntmps63
      go_wp2
      rw[HW0.out]
      go_end0
      rw[HE.out]
      exact⟨rfl,_,_,HH.out,ae HB0.out _,fun _ h=>.inl h⟩
  · have g4:(f.seq.tmod 4==0)=false:=by rw[beq_eq_false_iff_ne,Int.tmod_eq_emod_of_nonneg hsq.1];exact hc4
    rw[if_neg (fun hc=>hc4 hc.1)] at HE
    go_enter Tryz.func63,Tryz.ntmps63
    go_wp2
    rw[HW0.out]
    go_end0
    rw[HE.out]
    exact⟨rfl,_,_,HH.out,ae HB0.out _,fun _ h=>.inl h⟩
end
end Go.Proofs.YtlgfdgdlaahpfaaGreatDoor
