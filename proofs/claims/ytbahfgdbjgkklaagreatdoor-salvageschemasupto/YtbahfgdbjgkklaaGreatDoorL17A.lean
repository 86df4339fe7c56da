import Derived.Test.YtbahfgdbjgkklaaGreatDoorA1
import Derived.Test.YtbahfgdbjgkklaaGreatDoorB36
namespace Go.Proofs.YtbahfgdbjgkklaaGreatDoor
variable{B n z:Nat}{w w':World}{q:OA}
open Go.RowKit
def lZ(w:World)(q:OA)(xs:List Bat):Prop:=∀j (h:j<xs.length),∃b o rp rc,q=some ⟨b,o,none⟩∧b<w.1.size∧w.cell? ⟨b,o+j*5,none⟩=some (.int .i64 (xs[j].at_:Nat))∧w.cell? ⟨b,o+j*5+1,none⟩=some (.int .i64 xs[j].number)∧w.cell? ⟨b,o+j*5+2,none⟩=some (.int .i64 xs[j].seq)∧w.cell? ⟨b,o+j*5+3,none⟩=some (.int .i64 xs[j].first)∧w.cell? ⟨b,o+j*5+4,none⟩=some (.slice rp xs[j].rows.length rc)∧fw w rp rc xs[j].rows
theorem lZ.on{xs:List Bat}(h:lZ w q xs)(hb:Below w.1.size w w'):lZ w' q xs:=fun j M=>by
 obtain⟨b,O,S,Q,o,y,D,E,I,J,K,L⟩:=h j M;exact⟨b,O,S,Q,o,Nat.lt_of_lt_of_le y hb.size,ae hb D,ae hb E,ae hb I,ae hb J,ae hb K,L.on hb⟩
structure xW(I:World->Prop):Prop where
 on:∀{w w':World},I w->Below w.1.size w w'->I w'
 all:∀(b:L8) (p:OA) (c:Nat) (w:World),b.length<=100000->b.length<=c->At w p b->I w->Calls Tryz.prog 11 #[.slice p b.length c] w fun e w'=>∃q d,e=.returned (.slice q (Sv.all b).length d)∧lZ w' q (Sv.all b)∧Below w.1.size w w'
def eV(w:World)(q:OA)(l:List (Int×List Col)):Prop:=∀j (h:j<l.length),∃b o p c,q=some ⟨b,o,none⟩∧b<w.1.size∧w.cell? ⟨b,o+j*2,none⟩=some (.int .i64 l[j].1)∧w.cell? ⟨b,o+j*2+1,none⟩=some (.slice p l[j].2.length c)∧bB w p c l[j].2
theorem eV.on{l:List (Int×List Col)}(h:eV w q l)(hb:Below w.1.size w w'):eV w' q l:=fun j J=>by
 obtain⟨b,K,p,c,o,y,D,E,I⟩:=h j J;exact⟨b,K,p,c,o,Nat.lt_of_lt_of_le y hb.size,ae hb D,ae hb E,I.on hb⟩
def rC(w:World)(s:Int->Option (List Col))(e:Ending)(w':World):Prop:=∃(l:List (Int×List Col)) (q:OA) (d:Nat),e=.returned (.slice q l.length d)∧eV w' q l∧l.Pairwise (fun a b=>a.1<b.1)∧(∀n c,(n,c)∈l↔s n=some c)∧l.length<=2000000∧Below w.1.size w w'
def vW(I:World->Prop):Prop:=∀(b:L8) (p:OA) (c:Nat) (w:World),b.length<=1100000->b.length<=c->At w p b->I w->Calls Tryz.prog 8 #[.slice p b.length c] w (rC w (Sv.sure (Sv.said (Sp.of b).out)))
def rz(w:World)(p:Addr):Prop:=(∃v,w.cell? p=some v)∧w.frozen? p=false
theorem rz.set{p:Addr}(h:rz w p)(q:Addr)(u:Value):rz (w.setCell q u) p:=by
 obtain⟨⟨v,o⟩,y⟩:=h;refine⟨?_,by rw[World.frozen?_setCell];exact y⟩;by_cases e:q=p
 ·subst e;exact⟨u,World.cell?_setCell_same (h:=o) ..⟩
 ·exact⟨v,by rw[World.cell?_setCell_other (h:=by first | exact e | exact fun D=>e D.symm)];exact o⟩
def dl(w:World)(B:Nat)(q:OA)(n z:Nat):Prop:=∀i,i<n->∃g,q=some ⟨g,0,none⟩∧B<=g∧g<w.1.size∧∀m,m<z->rz w ⟨g,i*z+m,none⟩
theorem dl.set(h:dl w B q n z)(p:Addr)(u:Value):dl (w.setCell p u) B q n z:=fun i I=>by
 obtain⟨g,o,y,D,E⟩:=h i I;exact⟨g,o,y,by simpa[World.setCell] using D,fun m J=>(E m J).set _ _⟩
theorem dl.on(h:dl w B q n z)(hb:Below w.1.size w w'):dl w' B q n z:=fun i K=>by
 obtain⟨g,y,D,o,E⟩:=h i K;refine⟨g,y,D,Nat.lt_of_lt_of_le o hb.size,fun m L=>?_⟩;obtain⟨⟨v,I⟩,J⟩:=E m L;exact⟨⟨v,ae hb I⟩,by rw[World.frozen?_of_block (a:=⟨g,i*z+m,none⟩) (hb.block g o)];exact J⟩
theorem tN{e:TypeId}{k cap:Nat}{xs:List Value}(h:w.ownsRow B e z (.slice q k cap) n xs):n<=cap∧cap<=maxLen∧dl w B q cap z:=by
 rcases h.2 with ⟨o,y⟩ | ⟨g,O,D,I,o,y,J,K,L,-⟩
 ·injection o with _ _ o;subst o y;exact⟨gQx,by decide,fun i E=>by omega⟩
 ·injection I with h7 _ h8;subst h7 h8;refine⟨J,K,fun i E=>⟨g,rfl,o,(Array.getElem?_eq_some_iff.1 y).1,fun m Q=>⟨?_,by simp[World.frozen?,y]⟩⟩⟩;have M:i*z+m<D.size:=by
   rw[L];have:(i+1)*z<=cap*z:=Nat.mul_le_mul_right _ E;rw[Nat.add_mul,Nat.one_mul] at this;omega
  exact⟨D[i*z+m],by simp[World.cell?,y,M]⟩
theorem oL(h:Below B w w'){g m:Nat}(y:B<=g)(u:Value):Below B w (w'.setCell ⟨g,m,none⟩ u):=by
 refine⟨h.os,h.tape,h.output,by simpa[World.setCell] using h.size,fun k o=>?_⟩;rw[Below.heap_setCell _ _ _ _ (by show k≠g;omega)];exact h.block k o
theorem dl.low{B':Nat}(h:dl w B q n z)(E:B'<=B):dl w B' q n z:=fun i I=>by
 obtain⟨g,o,y,D⟩:=h i I;exact⟨g,o,Nat.le_trans E y,D⟩
theorem dl.few{m:Nat}(h:dl w B q n z)(y:m<=n):dl w B q m z:=fun i o=>h i (Nat.lt_of_lt_of_le o y)
def im(P:OA->Nat->List Col->Prop)(w:World)(q:OA)(l:List (Int×List Col)):Prop:=∀j (h:j<l.length),∃b o p c,q=some ⟨b,o,none⟩∧b<w.1.size∧w.cell? ⟨b,o+j*2,none⟩=some (.int .i64 l[j].1)∧w.cell? ⟨b,o+j*2+1,none⟩=some (.slice p l[j].2.length c)∧bB w p c l[j].2∧P p c l[j].2
theorem im.schs{P:OA->Nat->List Col->Prop}{l:List (Int×List Col)}(h:im P w q l):eV w q l:=fun j J=>by
 obtain⟨b,K,p,c,o,y,D,E,I,_⟩:=h j J;exact⟨b,K,p,c,o,y,D,E,I⟩
theorem eV.p{l:List (Int×List Col)}(h:eV w q l):im (fun _ _ _=>True) w q l:=fun j J=>by
 obtain⟨b,K,p,c,o,y,D,E,I⟩:=h j J;exact⟨b,K,p,c,o,y,D,E,I,trivial⟩
def zP(w:World)(s:Int->Option (List Col))(e:Ending)(w':World):Prop:=∃(l:List (Int×List Col)) (q:OA) (d:Nat),e=.returned (.slice q l.length d)∧im (fun p _ c=>dl w' w.1.size p c.length 9) w' q l∧l.Pairwise (fun a b=>a.1<b.1)∧(∀n c,(n,c)∈l↔s n=some c)∧l.length<=2000000∧Below w.1.size w w'
def jA(I:World->Prop):Prop:=∀(b:L8) (p:OA) (c:Nat) (w:World),b.length<=1100000->b.length<=c->At w p b->I w->Calls Tryz.prog 8 #[.slice p b.length c] w (zP w (Sv.sure (Sv.said (Sp.of b).out)))
theorem jA.ok{o:World->Prop}(h:jA o):vW o:=fun b p c w L M O Q=>(h b p c w L M O Q).mono fun _ _ ⟨l,q,d,y,D,E,I,J,K⟩=>⟨l,q,d,y,D.schs,E,I,J,K⟩
end Go.Proofs.YtbahfgdbjgkklaaGreatDoor
