import Derived.Test.YtlgfdgdlaahpfaaGreatDoorB20
set_option maxRecDepth 100000
set_option maxHeartbeats 4000000
namespace Go.Proofs.YtlgfdgdlaahpfaaGreatDoor
open Go.RowKit
theorem eD(es fs:List Ent)(i:Nat)(h1:i<es.length)(h2:i<fs.length)(h:(es.take i).map Ent.tup=(fs.take i).map Ent.tup)(he:es[i].tup=fs[i].tup):(es.take (i+1)).map Ent.tup=(fs.take (i+1)).map Ent.tup:=by
 rw[List.take_succ_eq_append_getElem h1,List.take_succ_eq_append_getElem h2,List.map_append,List.map_append,h]
 simp[he]
theorem sF(p q:OA)(c d:Nat)(es fs:List Ent)(hl:es.length*24<=140737488351232)(w:World)(h1:cQ w p es)(h2:cQ w q fs):
  Calls Tryz.prog 62 #[.slice p es.length c,.slice q fs.length d] w fun e w'=>e=.returned (.bool (decide (es.map Ent.tup=fs.map Ent.tup)))∧∃n,w'=w.drewN n:=by
 obtain⟨R,hR⟩:∃R,R=decide (es.map Ent.tup=fs.map Ent.tup):=⟨_,rfl⟩
 rw[<-hR]
 have HR:=vQ hR
 have H1:=vQ h1
 have H2:=vQ h2
 clear hR h1 h2
 by_cases hlen:es.length=fs.length
 ·have g0:((es.length:Int) != (fs.length:Int))=false:=by rw[bne_eq_false_iff_eq];omega
  have HL:=vQ hlen
  obtain⟨m,hm⟩:∃m,m=fs.length:=⟨_,rfl⟩
  rw[<-hm] at g0 ⊢
  have hm2:m=es.length:=by omega
  subst hm2
  clear hm g0 hlen
  go_enter Tryz.func62,Tryz.ntmps62
  go_wp2
  go_loopw [13] (fun v13 wr=>∃i n:Nat,i<=es.length∧v13=.int .i64 i∧wr=w.drewN n∧Hid ((es.take i).map Ent.tup=(fs.take i).map Ent.tup)) (fun v13 _=>es.length-(intOf v13).toNat)
  case atStart=>exact⟨0,0,by omega,rfl,rfl,rfl⟩
  case round=>
   obtain⟨i,n,hi,rfl,rfl,HT⟩:=hrel
   by_cases hlt:i<es.length
   ·have hlt':(i:Int)<(es.length:Int):=by omega
    have hlt2:i<fs.length:=by have:=HL.out;omega
    obtain⟨b1,o1,hp,-,x0,x1,x2⟩:=H1.out i hlt
    obtain⟨b2,o2,hq,-,y0,y1,y2⟩:=H2.out i hlt2
    subst hp hq
    by_cases he:es[i].tup=fs[i].tup
    ·have HT2:=vQ (eD es fs i hlt hlt2 HT.out he)
     simp only[Ent.tup,Prod.mk.injEq] at he
     obtain⟨e1,e2,e3⟩:=he
     rw[<-e1] at y0
     rw[<-e2] at y1
     rw[<-e3] at y2
     generalize es[i].at_=a at x0 y0
     generalize es[i].row=b at x1 y1
     generalize es[i].sch=c' at x2 y2
     clear e1 e2 e3 HT
     go_wp2
     go_quiet (fail)
     go_wp2
     go_roundw
     case rel=>exact⟨i+1,_,by omega,by go_num,rfl,HT2⟩
     case measure=>simp[intOf];omega
    ·have HF:Hid (R=false):=by
      show _=_
      rw[HR.out,decide_eq_false]
      intro hc
      have h5:=dc hc
      subst h5
      exact he rfl
     have hne:(¬es[i].at_=fs[i].at_)∨(es[i].at_=fs[i].at_∧¬es[i].row=fs[i].row)∨(es[i].at_=fs[i].at_∧es[i].row=fs[i].row∧¬es[i].sch=fs[i].sch):=by
      by_cases h1:es[i].at_=fs[i].at_
      ·by_cases h2:es[i].row=fs[i].row
       ·by_cases h3:es[i].sch=fs[i].sch
        ·exact absurd (by simp only[Ent.tup,h1,h2,h3]) he
        ·exact .inr (.inr ⟨h1,h2,h3⟩)
       ·exact .inr (.inl ⟨h1,h2⟩)
      ·exact .inl h1
     generalize es[i].at_=a at x0 hne
     generalize es[i].row=b at x1 hne
     generalize es[i].sch=c' at x2 hne
     generalize fs[i].at_=a2 at y0 hne
     generalize fs[i].row=b2' at y1 hne
     generalize fs[i].sch=c2' at y2 hne
     clear he HT
     rcases hne with h1 | ⟨rfl,h1⟩ | ⟨rfl,rfl,h1⟩
     all_goals
      have g1:=aH h1
      clear h1
      go_wp2
      go_quiet (fail)
      go_wp2
      go_ret
      exact⟨by rw[HF.out];rfl,_,World.drewN_drewN ..⟩
   ·have hii:i=es.length:=by omega
    subst hii
    have HF:Hid (R=true):=by
     show _=_
     rw[HR.out,decide_eq_true_iff]
     have:=HT.out
     rw[List.take_length,HL.out,List.take_length] at this
     exact this
    clear HT
    go_wp2
    go_ret
    exact⟨by rw[HF.out];rfl,n,rfl⟩
 ·have g0:((es.length:Int) != (fs.length:Int))=true:=by rw[bne_iff_ne];omega
  have HF:Hid (R=false):=by
   show _=_
   rw[HR.out,decide_eq_false]
   intro hc
   have:=congrArg List.length hc
   simp at this
   exact hlen this
  clear hlen
  go_enter Tryz.func62,Tryz.ntmps62
  go_wp2
  go_ret
  exact⟨by rw[HF.out];rfl,0,rfl⟩
end Go.Proofs.YtlgfdgdlaahpfaaGreatDoor
