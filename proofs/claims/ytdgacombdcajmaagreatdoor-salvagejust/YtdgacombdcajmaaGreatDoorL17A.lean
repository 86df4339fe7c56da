import Derived.Test.YtdgacombdcajmaaGreatDoorA1
import Derived.Test.YtdgacombdcajmaaGreatDoorA9
namespace Go.Proofs.YtdgacombdcajmaaGreatDoor
open Go.RowKit
def iM(w:World)(q:OA)(xs:List Bat):Prop:=∀j (h:j<xs.length),∃b o rp rc,q=some ⟨b,o,none⟩∧b<w.1.size∧w.cell? ⟨b,o+j*5,none⟩=some (.int .i64 (xs[j].at_:Nat))∧w.cell? ⟨b,o+j*5+1,none⟩=some (.int .i64 xs[j].number)∧w.cell? ⟨b,o+j*5+2,none⟩=some (.int .i64 xs[j].seq)∧w.cell? ⟨b,o+j*5+3,none⟩=some (.int .i64 xs[j].first)∧w.cell? ⟨b,o+j*5+4,none⟩=some (.slice rp xs[j].rows.length rc)∧eS w rp rc xs[j].rows
theorem iM.on{w w':World}{q:OA}{xs:List Bat}(h:iM w q xs)(hb:Below w.1.size w w'):iM w' q xs:=fun j hj=>by
 obtain⟨b,o,rp,rc,h1,h2,h3,h4,h5,h6,h7,h8⟩:=h j hj
 exact⟨b,o,rp,rc,h1,Nat.lt_of_lt_of_le h2 hb.size,ae hb h3,ae hb h4,ae hb h5,ae hb h6,ae hb h7,h8.on hb⟩
structure tY(I:World->Prop):Prop where
 on:∀{w w':World},I w->Below w.1.size w w'->I w'
 all:∀(b:L8) (p:OA) (c:Nat) (w:World),b.length<=100000->b.length<=c->At w p b->I w->Calls Tryz.prog 6 #[.slice p b.length c] w fun e w'=>∃q d,e=.returned (.slice q (Sv.all b).length d)∧iM w' q (Sv.all b)∧Below w.1.size w w'
def jP(w:World)(q:OA)(l:List (Int×List Col)):Prop:=∀j (h:j<l.length),∃b o p c,q=some ⟨b,o,none⟩∧b<w.1.size∧w.cell? ⟨b,o+j*2,none⟩=some (.int .i64 l[j].1)∧w.cell? ⟨b,o+j*2+1,none⟩=some (.slice p l[j].2.length c)∧bQ w p c l[j].2
theorem jP.on{w w':World}{q:OA}{l:List (Int×List Col)}(h:jP w q l)(hb:Below w.1.size w w'):jP w' q l:=fun j hj=>by
 obtain⟨b,o,p,c,h1,h2,h3,h4,h5⟩:=h j hj
 exact⟨b,o,p,c,h1,Nat.lt_of_lt_of_le h2 hb.size,ae hb h3,ae hb h4,h5.on hb⟩
def tV(w:World)(s:Int->Option (List Col))(e:Ending)(w':World):Prop:=∃(l:List (Int×List Col)) (q:OA) (d:Nat),e=.returned (.slice q l.length d)∧jP w' q l∧l.Pairwise (fun a b=>a.1<b.1)∧(∀n c,(n,c)∈l↔s n=some c)∧l.length<=1000000∧Below w.1.size w w'
def tT(I:World->Prop):Prop:=∀(b:L8) (p:OA) (c:Nat) (w:World),b.length<=100000->b.length<=c->At w p b->I w->Calls Tryz.prog 10 #[.slice p b.length c] w (tV w (Sv.sure (Sv.said (Sp.of b).out)))
theorem ve(b:L8):(Sv.all b).length<=b.length:=by
 obtain⟨ks,h1,h2,-⟩:=Sv.bats_of (Sv.sure (Sv.said (Sp.of b).out)) (Sp.of b).out
 have h3:=h1.length_le
 have h4:=Sp.out_len b
 show(Sv.bats _ _).length<=_
 omega
end Go.Proofs.YtdgacombdcajmaaGreatDoor
